/-
  Contracts of the document's book: Put.
-/
import Derived.Test.YtfjlepnodmeaaaaRef5b
namespace Go.Proofs.Ytfjlepnodmeaaaa
open Go.RowKit

theorem onesEvs_snoc : ∀ (k n : Nat), onesEvs n (k + 1) = onesEvs n k ++ [(some (n + k), true)]
  | 0, n => rfl
  | k + 1, n => by
    show (some n, true) :: onesEvs (n + 1) (k + 1) = _
    rw [onesEvs_snoc k (n + 1), show n + 1 + k = n + (k + 1) by omega]
    rfl
theorem bitEvs_snoc : ∀ (l : List Bool) (i a : Nat) (b : Bool), bitEvs i a (l ++ [b]) = bitEvs i a l ++ [(place (i + l.length) (l.foldl (fun a b => 2 * a + b.toNat) a), b)]
  | [], _, _, _ => rfl
  | c :: l, i, a, b => by
    show (place i a, c) :: bitEvs (i + 1) (2 * a + c.toNat) (l ++ [b]) = _
    rw [bitEvs_snoc l (i + 1) _ b, show i + 1 + l.length = i + (c :: l).length by simp; omega]
    rfl
theorem bitEvs_take {l : List Bool} {j : Nat} (h : j < l.length) : bitEvs 0 0 (l.take (j + 1)) = bitEvs 0 0 (l.take j) ++ [(place j (number (l.take j)), l.getD j false)] := by
  rw [List.take_add_one, List.getElem?_eq_getElem h, Option.toList_some, bitEvs_snoc, List.length_take, Nat.min_eq_left (by omega), Nat.zero_add, List.getD_eq_getElem?_getD, List.getElem?_eq_getElem h]
  rfl

/-- Behind a row of bits, from w0 on. -/
def PenAt (w0 : World) (q p t : Nat) (v0 : Value) (B : Chs) (e : Enc) (w : World) (l : List Ev) : Prop :=
  ∃ v', Pen w q (learned t B l) p v' (puts e (track t B l)) ∧ PenFr q p v0 v' w0 w
theorem Pen.at_ {w : World} {q p t : Nat} {v : Value} {B : Chs} {e : Enc} (h : Pen w q B p v e) : PenAt w q p t v B e w [] := ⟨v, h, PenFr.refl q p v w⟩
theorem Pen.fr0 {w w' : World} {q p : Nat} {v : Value} {B : Chs} {e : Enc} (h : Pen w q B p v e) (hf : Fr [] w w') : Pen w' q B p v e :=
  ⟨h.bk.fr hf (by simp), h.en.fr0 hf, h.qp, h.qv, h.fine, h.ok⟩
theorem PenFr.fr0 {q p : Nat} {v v' : Value} {w w2 w3 : World} (h : PenFr q p v v' w w2) (hf : Fr [] w2 w3) : PenFr q p v v' w w3 :=
  ⟨h.1.trans hf (by simp), h.2⟩
theorem PenAt.fr0 {w0 w w' : World} {q p t : Nat} {v0 : Value} {B : Chs} {e : Enc} {l : List Ev} (h : PenAt w0 q p t v0 B e w l) (hf : Fr [] w w') : PenAt w0 q p t v0 B e w' l := by
  obtain ⟨v', h1, h2⟩ := h
  exact ⟨v', h1.fr0 hf, h2.fr0 hf⟩
theorem PenAt.put {w0 W : World} {q p t : Nat} {v0 : Value} {B : Chs} {e : Enc} {l : List Ev} (h : PenAt w0 q p t v0 B e W l) (i : Option Nat) (bit : Bool) (ht : t < 16) (hi : ∀ j, i = some j → j < 37) (hn : e.n + l.length ≤ 100000) :
    Calls Try.prog 45 #[pt q, pt p, .int .i64 (t : Int), .int .i64 (plI i), .int .u8 (bit.toNat : Int)] W fun r w' => r = .returned (.tuple #[]) ∧ PenAt w0 q p t v0 B e w' (l ++ [(i, bit)]) := by
  obtain ⟨v', h1, h2⟩ := h
  have hn2 := puts_n (track t B l) e
  rw [track_length] at hn2
  refine (rputB_any W q p t v' _ _ i bit h1 ht hi (by omega)).mono ?_
  rintro r w' ⟨hr, v2, h3, h4⟩
  refine ⟨hr, v2, ?_, h2.trans h4⟩
  rw [learned_append, track_append, puts_append]
  exact h3
/-- One row of bits behind another. -/
theorem PenAt.join {w0 w1 w : World} {q p t : Nat} {v0 v1 : Value} {B : Chs} {e : Enc} {l m : List Ev} (h : PenFr q p v0 v1 w0 w1) (k : PenAt w1 q p t v1 (learned t B l) (puts e (track t B l)) w m) : PenAt w0 q p t v0 B e w (l ++ m) := by
  obtain ⟨v', h1, h2⟩ := k
  refine ⟨v', ?_, h.trans h2⟩
  rw [learned_append, track_append, puts_append]
  exact h1

theorem PenAt.row {w0 W : World} {q p t : Nat} {v0 : Value} {B : Chs} {e : Enc} {l : List Ev} (h : PenAt w0 q p t v0 B e W l) {ty : TypeId} {g n c : Nat} {xs : List Value} (hO : Own w0 ty (.slice (some ⟨g, 0, none⟩) n c) xs) (h1 : g ≠ q) (h2 : g ≠ p) (h3 : v0.ownBlock ≠ some g) : Own W ty (.slice (some ⟨g, 0, none⟩) n c) xs := by
  obtain ⟨v', -, hf⟩ := h
  refine hO.fr hf.1 fun k hk hm => ?_
  have : g = k := by simpa [Value.ownBlock] using hk
  subst this
  rcases List.mem_cons.1 hm with hm | hm
  · exact h1 hm
  · rcases List.mem_cons.1 hm with hm | hm
    · exact h2 hm
    · exact h3 (by simpa using hm)
theorem Src.first {w : World} {A : Option Addr} {n c k : Nat} {xs : List Value} (h : Src w (.slice A n c) xs) (hk : k ≤ n) : Src w (.slice A k c) (xs.take k) := by
  rcases h with ⟨h1, rfl⟩ | ⟨ad, c', h1, hle, hc⟩
  · injection h1 with e1 e2 e3
    subst e1 e2 e3
    obtain rfl : k = 0 := by omega
    exact .inl ⟨rfl, rfl⟩
  · injection h1 with e1 e2 e3
    subst e1 e2 e3
    refine .inr ⟨ad, c, by simp; omega, by simp; omega, fun j u hu => hc j u ?_⟩
    rw [List.getElem?_take] at hu
    split at hu
    · exact hu
    · cases hu
theorem bitsU_take (l : List Bool) (k : Nat) : bitsU (l.take k) = (bitsU l).take k := by simp [bitsU]
theorem bitsU_getD (l : List Bool) (k : Nat) (h : k < l.length) : (bitsU l)[k]? = some (u8b (l.getD k false)) := by
  rw [bitsU, List.getElem?_map, List.getElem?_eq_getElem h, List.getD_eq_getElem?_getD, List.getElem?_eq_getElem h]
  rfl

theorem rPut_bad (t v : Int) (a b : Value) (w : World) (h : ¬ (0 ≤ t ∧ t ≤ 15) ∨ v < 0 ∨ 1048576 < v) :
    Calls Try.prog 28 #[a, b, .int .i64 t, .int .i64 v] w fun r w' => r = .returned (.int .i64 1) ∧ w' = w := by
  have HT := rtopic_any t w
  by_cases h1 : 0 ≤ t ∧ t ≤ 15
  · rw [decide_eq_true h1] at HT
    have HT := Lib.hid HT
    by_cases h2 : v < 0
    · have e1 : decide (v < 0) = true := by simpa using h2
      go_enter Try.func28, Try.ntmps28
      go_wp2_with fail
      refine HT.out.mono ?_
      rintro r w1 ⟨rfl, rfl⟩
      go_wp2_with fail
      go_ret
      exact ⟨rfl, rfl⟩
    · have e1 : decide (v < 0) = false := by simpa using h2
      have e2 : decide (1048576 < v) = true := by simp; omega
      go_enter Try.func28, Try.ntmps28
      go_wp2_with fail
      refine HT.out.mono ?_
      rintro r w1 ⟨rfl, rfl⟩
      go_wp2_with fail
      go_ret
      exact ⟨rfl, rfl⟩
  · rw [decide_eq_false h1] at HT
    have HT := Lib.hid HT
    go_enter Try.func28, Try.ntmps28
    go_wp2_with fail
    refine HT.out.mono ?_
    rintro r w1 ⟨rfl, rfl⟩
    go_wp2_with fail
    go_ret
    exact ⟨rfl, rfl⟩

set_option maxRecDepth 20000 in
set_option maxHeartbeats 4000000 in
theorem rPut_ok (w : World) (q p t n : Nat) (v : Value) (B : Chs) (e : Enc) (h : Pen w q B p v e) (ht : t < 16) (hn : n ≤ 1048576) (he : e.n ≤ 90000) :
    Calls Try.prog 28 #[pt q, pt p, .int .i64 (t : Int), .int .i64 (n : Int)] w fun r w' => r = .returned (.int .i64 0) ∧ PenAt w q p t v B e w' (numEvs n) := by
  have HT := rtopic_any t w
  rw [decide_eq_true (by omega : 0 ≤ (t : Int) ∧ (t : Int) ≤ 15)] at HT
  have HT := Lib.hid HT
  have e1 : decide (1048576 < (n : Int)) = false := by simp; omega
  have e0 : decide ((n : Int) < 0) = false := by simp
  obtain ⟨N, hN⟩ : ∃ N, N = (n + 1).log2 := ⟨_, rfl⟩
  have hb : bitLen (n + 1) = N + 1 := by unfold bitLen; rw [if_neg (by omega), hN]
  have hN20 : N ≤ 20 := by rw [hN]; exact log2_level hn
  have H0 := Lib.hid (h.at_ (t := t))
  have Hb := Lib.hid hb
  have HN := Lib.hid hN
  clear h hb hN
  go_enter Try.func28, Try.ntmps28
  go_wp2_with fail
  refine HT.out.mono ?_
  rintro r w1 ⟨rfl, rfl⟩
  clear HT
  go_wp2_with fail
  go_loopw [10, 11] (fun s10 s11 wr => ∃ (x k : Nat), k ≤ n + 1 ∧ s10 = .int .i64 (x : Int) ∧ s11 = .int .i64 (k : Int) ∧ x + bitLen k = N + 1 ∧ wr = w1) (fun _ s11 _ => (intOf s11).toNat)
  case atStart => exact ⟨0, n + 1, by omega, rfl, by simp, by have := Hb.out; omega, by trivial⟩
  case round =>
    obtain ⟨x, k, hk, rfl, rfl, hx, rfl⟩ := hrel
    have Hx := Lib.hid hx; clear hx
    by_cases h0 : 0 < k
    · have e2 : decide (0 < k) = true := by simpa using h0
      have Hs := Lib.hid (bitLen_step (v := k) (by omega))
      have hxb : x ≤ 21 := by have := Hx.out; omega
      go_wp2_with fail
      exact ⟨⟨x + 1, k / 2, by omega, by simp, by simp, by have := Hx.out; have := Hs.out; omega, by trivial⟩, by simp [intOf]; omega⟩
    · have e2 : decide (0 < k) = false := by simpa using h0
      have hx1 : x = N + 1 := by
        have := Hx.out
        rw [show k = 0 by omega] at this
        simpa [bitLen] using this
      have Hx1 := Lib.hid hx1
      have hxa : 1 ≤ x := by omega
      have hxb : x ≤ 21 := by omega
      clear Hx hk HT hx1
      go_wp2_with fail
      go_loopw [12] (fun s12 wx => ∃ i : Nat, i ≤ N ∧ s12 = .int .i64 (i : Int) ∧ PenAt wr q p t v B e wx (onesEvs 0 i)) (fun s12 _ => 20 - (intOf s12).toNat)
      case atStart => exact ⟨0, by omega, rfl, H0.out⟩
      case round =>
        clear H0
        obtain ⟨i, hi, rfl, hP⟩ := hrel
        have HP := Lib.hid hP; clear hP
        by_cases hiN : i < N
        · have e3 : decide ((i : Int) < (x : Int) - 1) = true := by have := Hx1.out; simp; omega
          have HPut := Lib.hid (HP.out.put (some i) true ht (fun j hj => by injection hj with hj; omega) (by simp; omega))
          have hpl : plI (some i) = (i : Int) := rfl
          rw [hpl, show ((true.toNat : Nat) : Int) = 1 from rfl, show onesEvs 0 i ++ [(some i, true)] = onesEvs 0 (i + 1) by rw [onesEvs_snoc, Nat.zero_add]] at HPut
          clear hpl
          go_wp2_with fail
          refine HPut.out.mono ?_
          rintro r1 w2 ⟨rfl, hP2⟩
          have HP2 := Lib.hid hP2; clear hP2 HPut
          go_wp2_with fail
          exact ⟨⟨i + 1, by omega, by simp, HP2.out⟩, by simp [intOf]; omega⟩
        · have e3 : decide ((i : Int) < (x : Int) - 1) = false := by have := Hx1.out; simp; omega
          have hiN2 : i = N := by omega
          have HiN := Lib.hid hiN2
          have exi : (x : Int) - 1 = (i : Int) := by have := Hx1.out; omega
          have Hxi := Lib.hid exi
          clear hi hiN hiN2 exi
          rcases Nat.lt_or_ge i 20 with h20 | h20
          case' inl =>
            have e4 : decide ((x : Int) < 21) = true := by have := Hx1.out; have := HiN.out; simp; omega
            have HPut := Lib.hid (HP.out.put (some i) false ht (fun j hj => by injection hj with hj; omega) (by simp; omega))
            have hpl : plI (some i) = (i : Int) := rfl
            rw [hpl, ← Hxi.out, show ((false.toNat : Nat) : Int) = 0 from rfl, show onesEvs 0 i ++ [(some i, false)] = onesEvs 0 i ++ stopEvs i by unfold stopEvs; rw [if_pos h20]] at HPut
            clear hpl
            go_wp2_with fail
            refine HPut.out.mono ?_
            rintro r1 w2 ⟨rfl, hQ⟩
            go_upto_region 15 with fail
            clear HPut
          case' inr =>
            have e4 : decide ((x : Int) < 21) = false := by have := Hx1.out; have := HiN.out; simp; omega
            have hQ := HP.out
            rw [show onesEvs 0 i = onesEvs 0 i ++ stopEvs i by unfold stopEvs; rw [if_neg (by omega), List.append_nil]] at hQ
            go_upto_region 15 with fail
            clear HP
            generalize wr = w2 at hQ ⊢
          all_goals
            rw [HiN.out] at hQ
            obtain ⟨v1, hPen, hPF⟩ := hQ
            have hDg := digits_any' (n + 1) N w2 (by omega) (by omega)
            have HPen := Lib.hid hPen
            have HPF := Lib.hid hPF
            rw [show ((n + 1 : Nat) : Int) = (n : Int) + 1 by simp, show (N : Int) = (x : Int) - 1 by have := Hx1.out; omega] at hDg
            have HDg := Lib.hid hDg
            have eU : IntKind.u64.wrap ((n : Int) + 1) = (n : Int) + 1 := IntWalk.u64_in _ (by omega)
            clear hPen hPF hDg e4 h20 e3
            go_wp2_with fail
            refine HDg.out.mono ?_
            rintro r1 w5 ⟨c5, rfl, hO5, hF5⟩
            have hlq := HPen.out.bk.lt
            have hlp := HPen.out.en.1.lt
            have hlv : v1.ownBlock ≠ some w2.heap.size := fun hk => by
              rcases HPen.out.en.2.1.form with ⟨rfl, -⟩ | ⟨g, cap, cur, rfl, hb, -⟩
              · simp [Value.ownBlock] at hk
              · have : g = w2.heap.size := by simpa [Value.ownBlock] using hk
                have := hb.lt
                omega
            obtain ⟨g, hg⟩ : ∃ g, g = w2.heap.size := ⟨_, rfl⟩
            rw [← hg] at hO5 hlv ⊢
            obtain ⟨B1, hB1⟩ : ∃ B1, B1 = learned t B (onesEvs 0 N ++ stopEvs N) := ⟨_, rfl⟩
            obtain ⟨f1, hf1⟩ : ∃ f1, f1 = puts e (track t B (onesEvs 0 N ++ stopEvs N)) := ⟨_, rfl⟩
            have hfn : f1.n ≤ 90021 := by
              have := puts_n (track t B (onesEvs 0 N ++ stopEvs N)) e
              rw [← hf1, track_length, List.length_append, onesEvs_length] at this
              have h2 : (stopEvs N).length ≤ 1 := by unfold stopEvs; split <;> simp
              omega
            obtain ⟨ds, hds⟩ : ∃ ds, ds = digits (n + 1) N := ⟨_, rfl⟩
            have hdl : ds.length = N := by rw [hds]; simp
            have hPF := HPF.out.fr0 hF5
            have hP5 := HPen.out.fr0 hF5
            rw [← hB1, ← hf1] at hP5
            rw [← hds] at hO5
            have HQ := Lib.hid (hP5.at_ (t := t))
            have HPF5 := Lib.hid hPF
            have HO : Hid (∀ W l, PenAt w5 q p t v1 B1 f1 W l → Own W 5 (.slice (some ⟨g, 0, none⟩) N c5) ((bitsU ds).map B8)) := Lib.hid fun W l hW => hW.row hO5 (by omega) (by omega) hlv
            have HB1 := Lib.hid hB1; have Hf1 := Lib.hid hf1; have Hds := Lib.hid hds; have Hdl := Lib.hid hdl
            clear hlq hlp hlv hg hB1 hf1 hds hdl hPF hP5 hO5 hF5 HPen HPF HDg
            go_wp2_with fail
            go_loopw [14] (fun s14 wx => ∃ j : Nat, j ≤ N ∧ s14 = .int .i64 (j : Int) ∧ PenAt w5 q p t v1 B1 f1 wx (bitEvs 0 0 (ds.take j))) (fun s14 _ => 20 - (intOf s14).toNat)
            case atStart => exact ⟨0, by omega, rfl, HQ.out⟩
            case round =>
              clear HQ
              obtain ⟨j, hj, rfl, hP⟩ := hrel
              have HP := Lib.hid hP; clear hP
              by_cases hjN : j < N
              · have e3 : decide ((j : Int) < (x : Int) - 1) = true := by have := Hx1.out; simp; omega
                have hOw := HO.out _ _ HP.out
                obtain ⟨bit, hbit⟩ : ∃ bit, bit = ds.getD j false := ⟨_, rfl⟩
                have hcell : wr.cell? ⟨g, j, none⟩ = some (.int .u8 (bit.toNat : Int)) := by
                  have h1 := (hOw.at_ (j := j) (by simp; rw [Hdl.out]; exact hjN)).1
                  rw [h1, List.getElem?_map, bitsU_getD ds j (by rw [Hdl.out]; exact hjN), ← hbit]
                  exact congrArg some (B8_u8b bit)
                obtain ⟨a, ha⟩ : ∃ a, a = number (ds.take j) := ⟨_, rfl⟩
                have halt : a < 2 ^ j := by
                  have := number_lt (ds.take j)
                  rw [List.length_take, Nat.min_eq_left (by rw [Hdl.out]; omega)] at this
                  omega
                have ha20 : a < 1048576 := Nat.lt_of_lt_of_le halt (Nat.pow_le_pow_right (n := 2) (i := j) (j := 20) (by omega) (by omega))
                have hNum := number_any (.slice (some ⟨g, 0, none⟩) j c5) (ds.take j) wr.drew (by rw [bitsU_take, List.map_take]; exact ((hOw.src).first (by omega)).drew) (by rw [List.length_take]; omega)
                rw [← ha] at hNum
                have hPl := rplace_any j a wr.drew (by omega) (by omega)
                obtain ⟨pl, hpl⟩ : ∃ pl, pl = place j a := ⟨_, rfl⟩
                have hPu := (HP.out.fr0 (Fr.refl [] wr).drew).put pl bit ht (by rw [hpl]; exact place_lt halt) (by rw [bitEvs_length, List.length_take]; omega)
                have hsn : bitEvs 0 0 (ds.take j) ++ [(pl, bit)] = bitEvs 0 0 (ds.take (j + 1)) := by rw [bitEvs_take (by rw [Hdl.out]; exact hjN), ← ha, ← hbit, hpl]
                rw [hsn] at hPu
                rw [← hpl] at hPl
                obtain ⟨z, hz⟩ : ∃ z, z = plI pl := ⟨_, rfl⟩
                rw [← hz] at hPl hPu
                have HNum := Lib.hid hNum; have HPl := Lib.hid hPl; have HPu := Lib.hid hPu
                have eA : IntKind.i64.wrap (a : Int) = (a : Int) := IntWalk.i64_in _ (by omega)
                have qc : j ≤ c5 := by
                  rcases hOw.form with ⟨h1, -⟩ | ⟨g', cap, cur, h1, -, h2, -⟩
                  · cases h1
                  · injection h1 with h3 h4 h5
                    rw [h5]
                    omega
                have hcw : ∀ W l, PenAt w5 q p t v1 B1 f1 W l → W.cell? ⟨g, j, none⟩ = some (.int .u8 (bit.toNat : Int)) := fun W l hW => by
                  have h1 := ((HO.out W l hW).at_ (j := j) (by simp; rw [Hdl.out]; exact hjN)).1
                  rw [h1, List.getElem?_map, bitsU_getD ds j (by rw [Hdl.out]; exact hjN), ← hbit]
                  exact congrArg some (B8_u8b bit)
                have Hcw := Lib.hid hcw
                clear hcw
                clear hNum hPl hPu hsn hz hpl ha halt hbit hOw HP
                go_upto_region 19 with fail
                have hcell2 : wr.drew.cell? ⟨g, j, none⟩ = some (.int .u8 (bit.toNat : Int)) := hcell
                have qj : (j : Int) < (N : Int) := by omega
                refine wp_region_held_drew (S := fun W => W.cell? ⟨g, j, none⟩ = some (.int .u8 (bit.toNat : Int))) (by kernel_rfl) ?_ (fun hHeld => ?_)
                · (repeat' (first | trivial | assumption | refine ⟨?_, ?_⟩))
                refine wpAnyH_pick 0 (v := ?_) rfl (by kernel_rfl) (by kernel_rfl) (by kernel_rfl) (fun _ _ _ h => h) (by assumption) (by rfl) ?_ ?_
                rotate_left
                · (intro w hSw; (try dsimp only at hSw); go_simp) <;> (with_reducible rfl)
                (try simp only [Act.put, List.setIfInBounds_toArray, List.set_cons_zero, List.set_cons_succ])
                refine wpAnyH_pick 1 (v := ?_) rfl (by kernel_rfl) (by kernel_rfl) (by kernel_rfl) (fun _ _ _ h => h) (by assumption) (by rfl) ?_ ?_
                rotate_left
                · (intro w hSw; (try dsimp only at hSw); go_simp) <;> (with_reducible rfl)
                (try simp only [Act.put, List.setIfInBounds_toArray, List.set_cons_zero, List.set_cons_succ])
                refine wpAnyH_pick 2 (v := ?_) rfl (by kernel_rfl) (by kernel_rfl) (by kernel_rfl) (fun _ _ _ h => h) (by assumption) (by rfl) ?_ ?_
                rotate_left
                · (intro w hSw; (try dsimp only at hSw); go_simp) <;> (with_reducible rfl)
                (try simp only [Act.put, List.setIfInBounds_toArray, List.set_cons_zero, List.set_cons_succ])
                refine wpAnyH_pick 3 (v := ?_) rfl (by kernel_rfl) (by kernel_rfl) (by kernel_rfl) (fun _ _ _ h => h) (by assumption) (by rfl) ?_ ?_
                rotate_left
                · (intro w hSw; (try dsimp only at hSw); go_simp) <;> (with_reducible rfl)
                (try simp only [Act.put, List.setIfInBounds_toArray, List.set_cons_zero, List.set_cons_succ])
                refine wpAnyH_pick 4 (v := ?_) rfl (by kernel_rfl) (by kernel_rfl) (by kernel_rfl) (fun _ _ _ h => h) (by assumption) (by rfl) ?_ ?_
                rotate_left
                · (intro w hSw; (try dsimp only at hSw); go_simp) <;> (with_reducible rfl)
                (try simp only [Act.put, List.setIfInBounds_toArray, List.set_cons_zero, List.set_cons_succ])
                refine wpAnyH_pick 5 (v := ?_) rfl (by kernel_rfl) (by kernel_rfl) (by kernel_rfl) (fun _ _ _ h => h) (by assumption) (by rfl) ?_ ?_
                rotate_left
                · (intro w hSw; (try dsimp only at hSw); go_simp) <;> (with_reducible rfl)
                (try simp only [Act.put, List.setIfInBounds_toArray, List.set_cons_zero, List.set_cons_succ])
                refine wpAnyH_pick 6 (v := ?_) rfl (by kernel_rfl) (by kernel_rfl) (by kernel_rfl) (fun _ _ _ h => h) (by assumption) (by rfl) ?_ ?_
                rotate_left
                · (intro w hSw; (try dsimp only at hSw); go_simp) <;> (with_reducible rfl)
                (try simp only [Act.put, List.setIfInBounds_toArray, List.set_cons_zero, List.set_cons_succ])
                refine wpAnyH_pick 10 (v := ?_) rfl (by kernel_rfl) (by kernel_rfl) (by kernel_rfl) (fun _ _ _ h => h) (by assumption) (by rfl) ?_ ?_
                rotate_left
                · (intro w hSw; (try dsimp only at hSw); go_simp) <;> (with_reducible rfl)
                (try simp only [Act.put, List.setIfInBounds_toArray, List.set_cons_zero, List.set_cons_succ])
                refine wpAnyH_pick 11 (v := ?_) rfl (by kernel_rfl) (by kernel_rfl) (by kernel_rfl) (fun _ _ _ h => h) (by assumption) (by rfl) ?_ ?_
                rotate_left
                · (intro w hSw; (try dsimp only at hSw); go_simp) <;> (with_reducible rfl)
                (try simp only [Act.put, List.setIfInBounds_toArray, List.set_cons_zero, List.set_cons_succ])
                refine wpAnyH_pick 12 (v := ?_) rfl (by kernel_rfl) (by kernel_rfl) (by kernel_rfl) (fun _ _ _ h => h) (by assumption) (by rfl) ?_ ?_
                rotate_left
                · (intro w hSw; (try dsimp only at hSw); go_simp) <;> (with_reducible rfl)
                (try simp only [Act.put, List.setIfInBounds_toArray, List.set_cons_zero, List.set_cons_succ])
                refine wpAnyH_pick 13 (v := ?_) rfl (by kernel_rfl) (by kernel_rfl) (by kernel_rfl) (fun _ _ _ h => h) (by assumption) (by rfl) ?_ ?_
                rotate_left
                · (intro w hSw; (try dsimp only at hSw); go_simp) <;> (with_reducible rfl)
                (try simp only [Act.put, List.setIfInBounds_toArray, List.set_cons_zero, List.set_cons_succ])
                refine wpAnyH_ready (rs := [7]) (by kernel_rfl) (by simp) ?_
                refine AllReadyH_pick rfl (fun K hK => ?_) (AllReadyH.nil)
                go_simp
                refine HNum.out.mono ?_
                rintro r1 wN ⟨rfl, rfl⟩
                go_wp2_with fail
                refine hK.out _ _ ?_ (fun hHeld => ?_)
                · (repeat' (first | trivial | assumption | refine ⟨?_, ?_⟩))
                clear hK K
                (try simp only [Act.put, List.setIfInBounds_toArray, List.set_cons_zero, List.set_cons_succ])
                refine wpAnyH_pick 8 (v := ?_) rfl (by kernel_rfl) (by kernel_rfl) (by kernel_rfl) (fun _ _ _ h => h) (by assumption) (by rfl) ?_ ?_
                rotate_left
                · (intro w hSw; (try dsimp only at hSw); go_simp) <;> (with_reducible rfl)
                (try simp only [Act.put, List.setIfInBounds_toArray, List.set_cons_zero, List.set_cons_succ])
                refine wpAnyH_ready (rs := [9]) (by kernel_rfl) (by simp) ?_
                refine AllReadyH_pick rfl (fun K hK => ?_) (AllReadyH.nil)
                go_simp
                refine HPl.out.mono ?_
                rintro r1 wP ⟨rfl, rfl⟩
                go_wp2_with fail
                refine hK.out _ _ ?_ (fun hHeld => ?_)
                · (repeat' (first | trivial | assumption | refine ⟨?_, ?_⟩))
                clear hK K
                (try simp only [Act.put, List.setIfInBounds_toArray, List.set_cons_zero, List.set_cons_succ])
                refine wpAnyH_ready (rs := [14]) (by kernel_rfl) (by simp) ?_
                refine AllReadyH_pick rfl (fun K hK => ?_) (AllReadyH.nil)
                go_simp
                refine HPu.out.mono ?_
                rintro r1 w6 ⟨rfl, hP6⟩
                have hc6 : w6.cell? ⟨g, j, none⟩ = some (.int .u8 (bit.toNat : Int)) := Hcw.out _ _ hP6
                have HP6 := Lib.hid hP6; clear hP6
                go_wp2_with fail
                refine hK.out _ _ ?_ (fun hHeld => ?_)
                · (repeat' (first | trivial | assumption | refine ⟨?_, ?_⟩))
                clear hK K
                (try simp only [Act.put, List.setIfInBounds_toArray, List.set_cons_zero, List.set_cons_succ])
                refine wpAnyH_done (by kernel_rfl) ?_ _
                skip
                go_wp2_with fail
                exact ⟨⟨j + 1, by omega, by simp, HP6.out⟩, by simp [intOf]; omega⟩
              · have e3 : decide ((j : Int) < (x : Int) - 1) = false := by have := Hx1.out; simp; omega
                have hjN2 : j = N := by omega
                have hfin := HP.out
                rw [hjN2, List.take_of_length_le (by rw [Hdl.out]; exact Nat.le_refl _)] at hfin
                rw [HB1.out, Hf1.out] at hfin
                have hall := PenAt.join HPF5.out hfin
                rw [List.append_assoc, Hds.out, HN.out] at hall
                have HAll := Lib.hid hall
                clear hfin hall hjN2
                go_wp2_with fail
                go_ret
                exact ⟨rfl, HAll.out⟩
end Go.Proofs.Ytfjlepnodmeaaaa
