/-
  Contracts of bits.New, (*Writer).Len and (*Writer).Put: the writer that the pointer names has the bits L, and then L and the new ones; condition: L is no longer than 100000000000 bits.
-/
import Derived.Test.YtpdmjgcheigooaaRows
import Derived.Test.YtpdmjgcheigooaaBits1
import Derived.Test.YtpdmjgcheigooaaBitsPlain
import Derived.Test.YtpdmjgcheigooaaMem
import Derived.StillTailTactics
import Derived.Deep.QuietTactic
import Derived.BigQuiet
import Derived.Deep.DeepCutAuto
namespace Go.Proofs.Ytpdmjgcheigooaa
open Go.RowKit

/-- A writer: the bits L. -/
def Wr (w : World) (p : Nat) (v : Value) (L : List Bool) : Prop :=
  ∃ bs : List UInt8, Blk w p 67 #[v, .int .i64 (L.length : Int)] ∧ Own w 5 v (bs.map B8) ∧ PackOf bs L ∧ v.ownBlock ≠ some p

theorem new_any (w : World) :
    Calls Try.prog 16 #[] w fun e w' => e = .returned (.pointer (some ⟨w.heap.size, 0, none⟩)) ∧ w' = w.alloc (.cells #[.slice none 0 0, .int .i64 0] 67) := by
  go_enter Try.func16, Try.ntmps16
  go_wp2
  go_ret
  exact ⟨rfl, rfl⟩

theorem wlen_any (w : World) (p : Nat) (v : Value) (L : List Bool) (h : Wr w p v L) :
    Calls Try.prog 20 #[.pointer (some ⟨p, 0, none⟩)] w fun e w' => e = .returned (.int .i64 (L.length : Int)) ∧ w' = w := by
  obtain ⟨bs, hb, ho, hp, hn⟩ := h
  have h1 := hb.cell 1
  have hz := hb.lt
  clear hb ho hp hn
  simp at h1
  go_enter Try.func20, Try.ntmps20
  go_wp2
  go_ret
  exact ⟨rfl, rfl⟩

theorem wlen_nil (w : World) :
    Calls Try.prog 20 #[.pointer none] w fun e w' => e = .returned (.int .i64 0) ∧ w' = w := by
  go_enter Try.func20, Try.ntmps20
  go_wp2
  go_ret
  exact ⟨rfl, rfl⟩

theorem put_nil (a b : Int) (w : World) :
    Calls Try.prog 34 #[.pointer none, .int .u64 a, .int .i64 b] w fun e w' => e = .returned (.int .i64 1) ∧ w' = w := by
  go_enter Try.func34, Try.ntmps34
  go_wp2
  go_ret
  exact ⟨rfl, rfl⟩

theorem put_width (p : Nat) (v : Value) (L : List Bool) (a b : Int) (w : World) (h : Wr w p v L) (hb : b < 0 ∨ 64 < b) :
    Calls Try.prog 34 #[.pointer (some ⟨p, 0, none⟩), .int .u64 a, .int .i64 b] w fun e w' => e = .returned (.int .i64 1) ∧ w' = w := by
  obtain ⟨bs, hbl, -, -, -⟩ := h
  have hz := hbl.lt
  clear hbl
  go_enter Try.func34, Try.ntmps34
  go_wp2_with fail
  refine (isWidth_no _ _ hb).mono ?_
  rintro e w' ⟨rfl, rfl⟩
  go_wp2_with fail
  go_ret
  exact ⟨rfl, rfl⟩

theorem shr_ne (a n : Nat) (h : 2 ^ n ≤ a) : ((a : Int) / 2 ^ n != 0) = true := by
  have h1 : 0 < a / 2 ^ n := Nat.div_pos h (Nat.two_pow_pos n)
  have e : (a : Int) / 2 ^ n = ((a / 2 ^ n : Nat) : Int) := by simp
  rw [e, bne_iff_ne]
  omega
theorem shr_eq (a n : Nat) (h : a < 2 ^ n) : ((a : Int) / 2 ^ n != 0) = false := by
  have e : (a : Int) / 2 ^ n = ((a / 2 ^ n : Nat) : Int) := by simp
  rw [e, Nat.div_eq_of_lt h]
  rfl

theorem and_ones (a m k fk : Nat) (ha : a < 18446744073709551616) (hk : fk + k ≤ 8) :
    ∃ z : Nat, z < 256 ∧ bits BinOp.and IntKind.u64 ((a : Int) / 2 ^ m) ((2 ^ k - 1 : Nat) : Int) = (z : Int) ∧ z = (a >>> m) % 2 ^ k ∧ z <<< fk < 256 := by
  have e : (a : Int) / 2 ^ m = ((a / 2 ^ m : Nat) : Int) := by simp
  have h0 : a / 2 ^ m ≤ a := Nat.div_le_self _ _
  have h1 : 2 ^ k ≤ 2 ^ 8 := Nat.pow_le_pow_right (by omega) (by omega)
  have h2 : (a / 2 ^ m) % 2 ^ k < 2 ^ k := Nat.mod_lt _ (Nat.two_pow_pos k)
  refine ⟨(a / 2 ^ m) % 2 ^ k, by omega, ?_, by rw [Nat.shiftRight_eq_div_pow], ?_⟩
  · rw [e, u64_and_nat _ _ (by omega) (by omega), Nat.and_two_pow_sub_one_eq_mod]
  · rw [Nat.shiftLeft_eq]
    have h3 : (a / 2 ^ m) % 2 ^ k * 2 ^ fk < 2 ^ k * 2 ^ fk := Nat.mul_lt_mul_of_pos_right h2 (Nat.two_pow_pos fk)
    have h4 : 2 ^ k * 2 ^ fk ≤ 2 ^ 8 := by rw [← Nat.pow_add]; exact Nat.pow_le_pow_right (by omega) (by omega)
    omega

theorem or_u8 (y z fk : Nat) (hy : y < 256) (hz : z <<< fk < 256) :
    bits BinOp.or IntKind.u8 (y : Int) ((z : Int) * 2 ^ fk % 256) = ((y ||| z <<< fk : Nat) : Int) ∧ (UInt8.ofNat (y ||| z <<< fk)).toNat = y ||| z <<< fk := by
  have h1 : y ||| z <<< fk < 2 ^ 8 := Nat.or_lt_two_pow (by omega) (by omega)
  have e : (z : Int) * 2 ^ fk % 256 = ((z <<< fk : Nat) : Int) := by
    have : ((z <<< fk : Nat) : Int) = (z : Int) * 2 ^ fk := by rw [Nat.shiftLeft_eq]; simp
    rw [← this]; exact Int.emod_eq_of_lt (Int.natCast_nonneg _) (Int.ofNat_lt.2 hz)
  refine ⟨by rw [e, u8_or_nat _ _ hy hz], ?_⟩
  simp only [UInt8.toNat_ofNat']
  exact Nat.mod_eq_of_lt h1

theorem put_wide (p : Nat) (v : Value) (L : List Bool) (a n : Nat) (w : World) (h : Wr w p v L) (hn : n ≤ 64) (hv : 2 ^ n ≤ a) :
    Calls Try.prog 34 #[.pointer (some ⟨p, 0, none⟩), .int .u64 (a : Int), .int .i64 (n : Int)] w fun e w' => e = .returned (.int .i64 1) ∧ w' = w := by
  obtain ⟨bs, hbl, -, -, -⟩ := h
  have hz := hbl.lt
  clear hbl
  have hs := shr_ne a n hv
  go_enter Try.func34, Try.ntmps34
  go_wp2_with fail
  refine (isWidth_yes _ _ (by omega) (by omega)).mono ?_
  rintro e w' ⟨rfl, rfl⟩
  go_wp2_with fail
  go_ret
  exact ⟨rfl, rfl⟩

theorem toWhole_nat (c f : Nat) (w : World) (h1 : c ≤ 1000000000000000) (hf : f = (8 - c % 8) % 8) :
    Calls Try.prog 42 #[.int .i64 (c : Int)] w fun e w' => e = .returned (.int .i64 (f : Int)) ∧ w' = w :=
  (toWhole_any c w (by omega) (by omega)).mono fun _ _ ⟨h, hw⟩ => ⟨by rw [h]; congr 2; omega, hw⟩


/-- A writer whose last byte has room: c bits are there. -/
def Room (w : World) (p g cap : Nat) (c : Nat) (bs : List UInt8) (l : List Bool) : Prop :=
  Blk w p 67 #[.slice (some ⟨g, 0, none⟩) (c / 8 + 1) cap, .int .i64 (c : Int)] ∧ Own w 5 (.slice (some ⟨g, 0, none⟩) (c / 8 + 1) cap) (bs.map B8) ∧ bs.length = c / 8 + 1 ∧ (∀ j, bitAt bs j = l.getD j false) ∧ g ≠ p

/-- What a call on the writer p, whose bytes lay at v, may have written. -/
def WFr (p : Nat) (v v' : Value) (w w' : World) : Prop := Fr (p :: v.ownBlock.toList) w w' ∧ (v'.ownBlock = v.ownBlock ∨ ∃ g, v'.ownBlock = some g ∧ w.heap.size ≤ g)

theorem WFr.app {p : Nat} {v v1 v2 : Value} {w0 w w3 : World} {o : Obj} (h : WFr p v v1 w0 w) (hG : Own1 v1 v2 (w.alloc o) w3) (u : Value) : WFr p v v2 w0 (w3.setCell ⟨p, 0, none⟩ u) := by
  obtain ⟨hf, hv⟩ := h
  obtain ⟨gf, gv⟩ := hG
  have hs := hf.size
  refine ⟨((hf.alloc o).trans gf ?_).setCell (.inl (by simp)) u, ?_⟩
  · intro x hx
    rcases hv with e | ⟨g, e, hg⟩
    · rw [e] at hx; exact .inl (List.mem_cons_of_mem _ hx)
    · rw [e] at hx; simp at hx; subst hx; exact .inr hg
  · rcases gv with e | ⟨g, e, hg⟩
    · rw [e]; exact hv
    · exact .inr ⟨g, e, by simp at hg; omega⟩

theorem Room.of {w : World} {p c : Nat} {v : Value} {bs : List UInt8} {l : List Bool} (hb : Blk w p 67 #[v, .int .i64 (c : Int)]) (ho : Own w 5 v (bs.map B8)) (hp : PackOf bs l) (hc : c = l.length) (hz : c % 8 ≠ 0) (hne : v.ownBlock ≠ some p) :
    ∃ g cap, v = .slice (some ⟨g, 0, none⟩) (c / 8 + 1) cap ∧ Room w p g cap c bs l := by
  have hl : bs.length = c / 8 + 1 := by rw [hp.1, ← hc]; omega
  obtain ⟨g, cap, rfl, -, -, -, -⟩ := ho.last (i := c / 8) (by simpa using hl)
  exact ⟨g, cap, rfl, hb, ho, hl, hp.2, by simpa [Value.ownBlock] using hne⟩

theorem info_u8 : (Try.prog.info? 5).map (fun i => (i.zero, i.size, i.bytes)) = some (some (.int .u8 0), 1, 1) := by kernel_rfl

/-- append onto bytes of the call's own. -/
theorem wp_append_u8 {w : World} {ops : Array Oper} {rest : List Oper} {o : Oper} {a : Act} {Q : Exit → Act → World → Prop} (s x : Operand) (v : Value) (xs : List UInt8) (src : Value) (news : List UInt8)
    (hgd : o.guard = none) (ho : o.op = .call { callee := .builtin .append, args := #[s, x], argTypes := #[23, 23] })
    (hv : a.eval s = v) (hsv : a.eval x = src) (hown : Own w 5 v (xs.map B8)) (hs : Src w src (news.map B8)) (hlen : xs.length + news.length ≤ 1000000000000)
    (h : ∀ v' w', Own w' 5 v' ((xs ++ news).map B8) → Own1 v v' w w' → wpList Try.prog ops Q rest (a.put o.dst v') w') : wpList Try.prog ops Q (o :: rest) a w := by
  obtain ⟨i, hi, hz, h1, h2⟩ := info_parts info_u8
  refine wpList_append_mine s x 23 5 i _ 1 hgd ho Try.underlying23 hi hz h1 h2 rfl v _ src _ hv hsv hown hs ?_ ?_ ?_ ?_
  · intro u hu
    obtain ⟨b, _, rfl⟩ := List.mem_map.1 hu
    rfl
  · simp only [List.length_map, maxLen]; omega
  · simp only [List.length_map]; omega
  · intro v' w' k1 k2
    exact h v' w' (by rw [List.map_append]; exact k1) k2

theorem put_ok (p : Nat) (v : Value) (L : List Bool) (a n : Nat) (w : World) (h : Wr w p v L) (hn : n ≤ 64) (ha : a < 2 ^ n) (hL : L.length ≤ 100000000000) :
    Calls Try.prog 34 #[.pointer (some ⟨p, 0, none⟩), .int .u64 (a : Int), .int .i64 (n : Int)] w fun e w' => e = .returned (.int .i64 0) ∧
      ∃ v', Wr w' p v' (L ++ digits a n) ∧ WFr p v v' w w' := by
  have hz : p < w.heap.size := by obtain ⟨bs, hbl, -, -, -⟩ := h; exact hbl.lt
  have hs := shr_eq a n ha
  go_enter Try.func34, Try.ntmps34
  go_wp2_with fail
  refine (isWidth_yes _ _ (by omega) (by omega)).mono ?_
  rintro e w' ⟨rfl, rfl⟩
  go_wp2_with fail
  go_loopw [2] (fun s wr => ∃ m : Nat, m ≤ n ∧ s = .int .i64 m ∧ ∃ v', Wr wr p v' (L ++ digits (a >>> m) (n - m)) ∧ WFr p v v' w' wr) (fun s _ => (intOf s).toNat)
  case atStart => exact ⟨n, Nat.le_refl _, rfl, v, by simpa [digits] using h, Fr.refl _ _, .inl rfl⟩
  case round =>
    obtain ⟨m, hm, rfl, v1, hW, hF⟩ := hrel
    by_cases hpos : 0 < m
    · obtain ⟨bs, hbl, ho, hp, hne⟩ := hW
      obtain ⟨l, hl⟩ : ∃ l, l = L ++ digits (a >>> m) (n - m) := ⟨_, rfl⟩
      obtain ⟨c, hc⟩ : ∃ c, c = l.length := ⟨_, rfl⟩
      obtain ⟨f, hf⟩ : ∃ f, f = (8 - c % 8) % 8 := ⟨_, rfl⟩
      have hcl : c ≤ 100000000064 := by rw [hc, hl]; simp; omega
      rw [← hl, ← hc] at hbl
      rw [← hl] at hp
      have Hc := Lib.hid hc; clear hc
      have Hl := Lib.hid hl; clear hl
      have Hf := Lib.hid hf; clear hf
      have c0 := hbl.cell 0
      have c1 := hbl.cell 1
      have c2 := hbl.frozen 0
      have hzr := hbl.lt
      simp at c0 c1
      have HB := Lib.hid hbl; clear hbl
      go_wp2_with fail
      refine (toWhole_nat c f _ (by omega) Hf.out).mono ?_
      rintro e w2 ⟨rfl, rfl⟩
      go_upto_if 30 with fail
      go_cut [7] (fun s7 wx => ∃ (f : Nat) (bs : List UInt8) (g cap : Nat), s7 = .int .i64 f ∧ f = 8 - c % 8 ∧ Room wx p g cap c bs l ∧ WFr p v (.slice (some ⟨g, 0, none⟩) (c / 8 + 1) cap) w' wx)
      case first =>
        by_cases hfz : 0 < f
        · have ef : ((f : Int) == 0) = false := by simp; omega
          go_wp2_with fail
          go_meet
          case rel =>
            have hf := Hf.out
            obtain ⟨g, cap, hv, hR⟩ := Room.of HB.out ho hp Hc.out (by omega) hne
            exact ⟨f, bs, g, cap, rfl, by omega, hR, by rw [← hv]; exact hF⟩
        · have hfe : f = 0 := by omega
          have ef : ((f : Int) == 0) = true := by simp; omega
          go_wp2_with (at_builtin; go_loud (refine wp_append_u8 _ _ _ bs _ [0] rfl rfl rfl rfl (ho.alloc _) (Src.one (by simp [go_sem]; rfl)) (by simp [hp.1]; have := Hc.out; omega) ?_))
          intro v2 w3 hO2 hG2
          have hB3 := (HB.out.alloc (Obj.cells #[Value.int IntKind.u8 0] 5)).fr hG2.1 (not_own hne)
          have hc := Hc.out
          have hf0 := Hf.out
          have hl2 : (bs ++ [0]).length = c / 8 + 1 := by simp [hp.1]; omega
          obtain ⟨g, cap, rfl, -, -, -, -⟩ := hO2.last (i := c / 8) (by simpa using hl2)
          clear hc hf0 hl2
          have d0 := hB3.cell 0
          have d1 := hB3.frozen 0
          simp at d0
          have HB3 := Lib.hid hB3; clear hB3
          clear c0 c1 c2
          go_wp2_with fail
          go_meet
          case rel =>
            have hc := Hc.out
            have hf0 := Hf.out
            have hl2 : (bs ++ [0]).length = c / 8 + 1 := by simp [hp.1]; omega
            have hne2 : (Value.slice (some ⟨g, 0, none⟩) (c / 8 + 1) cap).ownBlock ≠ some p := by
              rcases hG2.2 with h1 | ⟨k, h1, h2⟩
              · rw [h1]; exact hne
              · rw [h1]; simp at h2 ⊢; omega
            have hR := hF.app hG2 (Value.slice (some ⟨g, 0, none⟩) (c / 8 + 1) cap)
            have hS := HB3.out.set_ 0 (Value.slice (some ⟨g, 0, none⟩) (c / 8 + 1) cap)
            have h0 : Own w3 5 (Value.slice (some ⟨g, 0, none⟩) (c / 8 + 1) cap) ((bs ++ [0]).map B8) := by simpa using hO2
            have hO3 := h0.fr ((Fr.refl [p] w3).setCell (p := ⟨p, 0, none⟩) (.inl (by simp)) (Value.slice (some ⟨g, 0, none⟩) (c / 8 + 1) cap)) (fun k hk => by rw [hk] at hne2; simpa using hne2)
            exact ⟨8, bs ++ [0], g, cap, rfl, by omega, ⟨by simpa using hS, hO3, hl2, hp.push0, by simpa [Value.ownBlock] using hne2⟩, hR⟩
      case rest =>
        obtain ⟨f, bs, g, cap, rfl, hf, hR, hF⟩ := hcut
        obtain ⟨hB, hO, hlen, hbit, hgp⟩ := hR
        obtain ⟨i, hi⟩ : ∃ i, i = c / 8 := ⟨_, rfl⟩
        rw [← hi] at hB hO hlen hF
        have hf1 : 1 ≤ f := by omega
        have hf8 : f ≤ 8 := by omega
        have hil : i ≤ 100000000064 := by omega
        clear c0 c1 c2
        obtain ⟨e1, e2, e3⟩ := hO.at_ (j := i) (by simp; omega)
        obtain ⟨y, hy, hyc⟩ : ∃ y : Nat, y < 256 ∧ y = (bs.getD i 0).toNat := ⟨_, UInt8.toNat_lt _, rfl⟩
        have hcy : wc.cell? ⟨g, i, none⟩ = some (.int .u8 (y : Int)) := by
          rw [e1, hyc, List.getElem?_map, List.getElem?_eq_getElem (by omega), List.getD_eq_getElem?_getD, List.getElem?_eq_getElem (by omega)]; rfl
        clear e1
        have HY := Lib.hid hyc; clear hyc
        have HI := Lib.hid hi; clear hi
        have HL := Lib.hid hlen; clear hlen
        have Hf := Lib.hid hf; clear hf
        have d0 := hB.cell 0
        have d1 := hB.cell 1
        have d2 := hB.frozen 1
        have d3 := hB.lt
        simp at d0 d1
        have HB := Lib.hid hB; clear hB
        have hbit := Lib.hid hbit
        obtain ⟨k, hkm, hkf, hk1, hmin⟩ : ∃ k : Nat, k ≤ m ∧ k ≤ f ∧ 1 ≤ k ∧ (if f < m then (f : Int) else (m : Int)) = (k : Int) := by
          by_cases hfm : f < m
          · exact ⟨f, by omega, by omega, by omega, by rw [if_pos hfm]⟩
          · exact ⟨m, by omega, by omega, by omega, by rw [if_neg hfm]⟩
        go_upto_region 9 with fail
        clear hmin
        obtain ⟨m', rfl⟩ : ∃ m', m = m' + k := ⟨m - k, by omega⟩
        obtain ⟨fk, rfl⟩ : ∃ fk, f = fk + k := ⟨f - k, by omega⟩
        have ha64 : a < 18446744073709551616 := Nat.lt_of_lt_of_le ha (Nat.pow_le_pow_right (by omega) hn : 2 ^ n ≤ 2 ^ 64)
        obtain ⟨z, hz256, eA, hz, hzf⟩ := and_ones a m' k fk ha64 (by omega)
        have ez0 : (0 : Int) ≤ (z : Int) := by omega
        have eW : IntKind.u8.wrap (z : Int) = (z : Int) := IntWalk.u8_in _ (by omega)
        have HZ := Lib.hid hz; clear hz
        have ew : IntKind.i64.wrap (i : Int) = (i : Int) := IntWalk.i64_in _ (by omega)
        have ei0 : (0 : Int) ≤ (i : Int) := by omega
        have ei1 : (i : Int) < (i : Int) + 1 := by omega
        have ew0 : IntKind.i64.wrap 0 = 0 := rfl
        have ewf : IntKind.i64.wrap (fk : Int) = (fk : Int) := IntWalk.i64_in _ (by omega)
        have eo0 : (0 : Int) ≤ (fk : Int) := by omega
        go_wp2_with fail
        go_still_tail 25, (by kernel_rfl)
        still_call (ones_any k _ (by omega))
        repeat still_step
        refine wpStill_nil ?_
        change wpList _ _ _ _ _ wc.drew
        go_wp2_with fail
        obtain ⟨eO, eX⟩ := or_u8 y z fk hy hzf
        rw [eO]
        have hc := Hc.out
        have hl := Hl.out
        have hf := Hf.out
        have hi := HI.out
        have hlist : L ++ digits (a >>> m') (n - m') = l ++ digits (a >>> m') k := by rw [hl, digits_more a n m' k hm, List.append_assoc]
        have hgb : g ∈ (p :: v.ownBlock.toList) ∨ w'.heap.size ≤ g := by
          rcases hF.2 with e | ⟨q, e, hq⟩
          · exact .inl (by rw [← e]; simp [Value.ownBlock])
          · simp [Value.ownBlock] at e; subst e; exact .inr hq
        have hxB : Value.int .u8 ((y ||| z <<< fk : Nat) : Int) = B8 (UInt8.ofNat (y ||| z <<< fk)) := by simp only [B8, eX]
        refine ⟨⟨m', by omega, rfl, .slice (some ⟨g, 0, none⟩) (i + 1) cap, ?_, ?_, hF.2⟩, by simp [intOf]; omega⟩
        rw [hlist]
        refine ⟨bs.set i (UInt8.ofNat (y ||| z <<< fk)), ?_, ?_, ?_, by simpa [Value.ownBlock] using hgp⟩
        · have h1 := (HB.out.far (p := ⟨g, i, none⟩) (Ne.symm hgp) (Value.int .u8 ((y ||| z <<< fk : Nat) : Int))).set_ 1 (Value.int .i64 ((c : Int) + k))
          simp only [List.length_append, digits_length, ← hc]
          simpa using h1.drew
        · have h1 := hO.set i (Value.int .u8 ((y ||| z <<< fk : Nat) : Int))
          have h2 := h1.fr ((Fr.refl [p] _).setCell (p := ⟨p, 1, none⟩) (.inl (by simp)) (Value.int .i64 ((c : Int) + k))) (fun q hq => by simp [Value.ownBlock] at hq; subst hq; simpa using hgp)
          rw [List.map_set, ← hxB]
          exact h2
        · refine PackOf.round hbit.out (a >>> m') k i _ (by rw [← hc]; exact hi) (by rw [HL.out]; omega) (by rw [← hc]; omega) ?_ (by rw [HL.out, ← hc]; omega)
          rw [eX, HY.out, HZ.out, show 8 - l.length % 8 - k = fk by rw [← hc]; omega]
        · exact ((hF.1.setCell (p := ⟨g, i, none⟩) hgb _).setCell (p := ⟨p, 1, none⟩) (.inl (by simp)) _).drew
    · obtain rfl : m = 0 := by omega
      go_wp2_with fail
      go_ret
      exact ⟨rfl, v1, by simpa using hW, hF⟩
end Go.Proofs.Ytpdmjgcheigooaa
