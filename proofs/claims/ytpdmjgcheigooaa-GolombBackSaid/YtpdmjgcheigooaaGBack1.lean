/-
  The law GolombBack answers true whatever its input, and leaves its arguments as they were; no condition.
-/
import Derived.Test.YtpdmjgcheigooaaGPrefix
import Derived.Test.YtpdmjgcheigooaaSrc
import Derived.Test.YtpdmjgcheigooaaRegion
import Derived.Deep.DeepCutAuto
namespace Go.Proofs.Ytpdmjgcheigooaa
open Go.ChangeShapes Go.WideShapes Go.ChangeAt Go.RowKit

/-- The codes of numbers, one behind the other. -/
def codes (l : List Nat) : List Bool := l.flatMap code
theorem codes_append (a b : List Nat) : codes (a ++ b) = codes a ++ codes b := by simp [codes]
theorem codes_one (x : Nat) : codes [x] = code x := by simp [codes]
theorem codes_take (ds : List Nat) (j y : Nat) (h : ds[j]? = some y) : codes (ds.take (j + 1)) = codes (ds.take j) ++ code y := by
  rw [List.take_add_one, h, codes_append]
  simp [codes]
theorem row_more {bs : List UInt8} {l : List Bool} (h : PackOf bs l) : ∃ pad, rowOf bs = l ++ pad := by
  refine ⟨(rowOf bs).drop l.length, ?_⟩
  have := row_take h l.length (Nat.le_refl _)
  rw [List.drop_zero, List.take_of_length_le (Nat.le_refl _)] at this
  conv => lhs; rw [← List.take_append_drop l.length (rowOf bs), this]

/-- What was put is got, one number behind the other. -/
theorem gget_codes {bs : List UInt8} {ds : List Nat} (h : PackOf bs (codes ds)) (j y : Nat) (hj : ds[j]? = some y) (hy : y ≤ 4294967294) :
    gget (rowOf bs) (codes (ds.take j)).length = (y, 0, (codes (ds.take (j + 1))).length) := by
  obtain ⟨pad, hp⟩ := row_more h
  have hds : codes ds = codes (ds.take j) ++ (code y ++ codes (ds.drop (j + 1))) := by
    rw [← List.append_assoc, ← codes_take ds j y hj, ← codes_append, List.take_append_drop]
  have e := gget_code (rowOf bs) (codes (ds.take j)).length y (codes (ds.drop (j + 1)) ++ pad) hy
    (by rw [hp, hds, List.append_assoc, List.append_assoc, List.drop_left]) (by rw [hp, hds]; simp)
  rw [e, codes_take ds j y hj, List.length_append, code_length]

/-- A number in a cell. -/
def N64 (x : Nat) : Value := .int .u64 (x : Int)

theorem info_u64 : (Try.prog.info? 22).map (fun i => (i.zero, i.size, i.bytes)) = some (some (.int .u64 0), 1, 8) := by kernel_rfl

/-- append onto numbers of the call's own. -/
theorem wp_append_u64 {w : World} {ops : Array Oper} {rest : List Oper} {o : Oper} {a : Act} {Q : Exit → Act → World → Prop} (s x : Operand) (v : Value) (xs : List Nat) (src : Value) (news : List Nat)
    (hgd : o.guard = none) (ho : o.op = .call { callee := .builtin .append, args := #[s, x], argTypes := #[31, 31] })
    (hv : a.eval s = v) (hsv : a.eval x = src) (hown : Own w 22 v (xs.map N64)) (hs : Src w src (news.map N64)) (hlen : xs.length + news.length ≤ 1000000000)
    (h : ∀ v' w', Own w' 22 v' ((xs ++ news).map N64) → Own1 v v' w w' → wpList Try.prog ops Q rest (a.put o.dst v') w') : wpList Try.prog ops Q (o :: rest) a w := by
  obtain ⟨i, hi, hz, h1, h2⟩ := info_parts info_u64
  refine wpList_append_mine s x 31 22 i _ 8 hgd ho Try.underlying31 hi hz h1 h2 rfl v _ src _ hv hsv hown hs ?_ ?_ ?_ ?_
  · intro u hu
    obtain ⟨b, _, rfl⟩ := List.mem_map.1 hu
    rfl
  · simp only [List.length_map, maxLen]; omega
  · simp only [List.length_map]; omega
  · intro v' w' k1 k2
    exact h v' w' (by rw [List.map_append]; exact k1) k2

theorem Blk.one_type {w : World} {g : Nat} {t t' : TypeId} {cs cs' : Array Value} (h : Blk w g t cs) (k : Blk w g t' cs') : t = t' := by
  have := h.here.symm.trans k.here
  injection this with this
  injection this

/-- The writer has the bits L, the row the numbers ds; all that they may write is new since w0. -/
structure GPen (w0 w : World) (p : Nat) (v : Value) (L : List Bool) (D : Value) (ds : List Nat) : Prop where
  a : Wr w p v L
  na : NewSince w0 p v
  d : Own w 22 D (ds.map N64)
  nd : ∀ k, D.ownBlock = some k → w0.heap.size ≤ k
  fr : Fr [] w0 w
section
variable {w0 w w' : World} {p : Nat} {v v2 D D2 : Value} {L L2 : List Bool} {ds ds2 : List Nat}
theorem Own.apartW {es : List Value} (h : Own w 22 D es) (a : Wr w p v L) : (∀ k, D.ownBlock = some k → k ∉ p :: v.ownBlock.toList) ∧ p ∉ D.ownBlock.toList ∧ ∀ k, v.ownBlock = some k → k ∉ D.ownBlock.toList := by
  obtain ⟨bs, hB, hO, -, -⟩ := a
  rcases h.form with ⟨rfl, -⟩ | ⟨g, cap, cur, rfl, hb, -⟩
  · exact ⟨by simp [Value.ownBlock], by simp [Value.ownBlock], by simp [Value.ownBlock]⟩
  · have e1 : g ≠ p := by
      rintro rfl
      exact absurd (hb.one_type hB) (by decide)
    have e2 : v.ownBlock ≠ some g := by
      intro e
      rcases hO.form with ⟨rfl, -⟩ | ⟨g', cap', cur', rfl, hb', -⟩
      · simp [Value.ownBlock] at e
      · simp [Value.ownBlock] at e
        subst e
        exact absurd (hb.one_type hb') (by decide)
    refine ⟨fun k hk hm => ?_, by simpa [Value.ownBlock] using fun e : p = g => e1 e.symm, fun k hk hm => ?_⟩
    · simp [Value.ownBlock] at hk
      subst hk
      rcases List.mem_cons.1 hm with e | e
      · exact e1 e
      · exact e2 (by simpa using e)
    · simp [Value.ownBlock] at hm
      subst hm
      exact e2 hk
theorem GPen.fr0 (h : GPen w0 w p v L D ds) (hf : Fr [] w w') : GPen w0 w' p v L D ds :=
  ⟨h.a.fr hf (by simp) (by simp), h.na, h.d.fr hf (by simp), h.nd, h.fr.trans hf (by simp)⟩
theorem GPen.put (h : GPen w0 w p v L D ds) (g : WFr p v v2 w w') (hA : Wr w' p v2 L2) : GPen w0 w' p v2 L2 D ds := by
  obtain ⟨f, ns⟩ := g.since h.fr h.na
  exact ⟨hA, ns, h.d.fr g.1 (h.d.apartW h.a).1, h.nd, f⟩
theorem GPen.app (h : GPen w0 w p v L D ds) (g : Own1 D D2 w w') (hD : Own w' 22 D2 (ds2.map N64)) : GPen w0 w' p v L D2 ds2 := by
  have ha := h.d.apartW h.a
  have hs := h.fr.size
  refine ⟨h.a.fr g.1 ha.2.1 ha.2.2, h.na, hD, fun k hk => ?_, h.fr.trans g.1 (fun x hx => .inr (h.nd x (by simpa using hx)))⟩
  rcases g.2 with e | ⟨j, e, hj⟩
  · exact h.nd k (by rw [← e]; exact hk)
  · rw [e] at hk; injection hk with hk; omega
end

/-- .. and the reader of the bytes bs, at bit a. -/
structure GBak (w0 w : World) (p : Nat) (v : Value) (L : List Bool) (D : Value) (ds : List Nat) (q : Nat) (vr : Value) (bs : List UInt8) (a : Nat) : Prop where
  pen : GPen w0 w p v L D ds
  r : Rd w q vr bs a
  nq : w0.heap.size ≤ q
  pq : p ∉ [q] ∧ (∀ k, v.ownBlock = some k → k ∉ [q]) ∧ ∀ k, D.ownBlock = some k → k ∉ [q]
section
variable {w0 w w' : World} {p q a a2 : Nat} {v D vr : Value} {L : List Bool} {ds : List Nat} {bs : List UInt8}
theorem GBak.fr0 (h : GBak w0 w p v L D ds q vr bs a) (hf : Fr [] w w') : GBak w0 w' p v L D ds q vr bs a :=
  ⟨h.pen.fr0 hf, h.r.fr hf (by simp) (by simp), h.nq, h.pq⟩
theorem GBak.step (h : GBak w0 w p v L D ds q vr bs a) (hf : Fr [q] w w') (hR : Rd w' q vr bs a2) : GBak w0 w' p v L D ds q vr bs a2 :=
  ⟨⟨h.pen.a.fr hf h.pq.1 h.pq.2.1, h.pen.na, h.pen.d.fr hf h.pq.2.2, h.pen.nd, h.pen.fr.trans hf (by intro x hx; simp at hx; subst hx; exact .inr h.nq)⟩, hR, h.nq, h.pq⟩
theorem GBak.new (h : GPen w0 w p v L D ds) (hf : Fr [] w w') (hR : Rd w' q vr bs 0) (hq : w.heap.size ≤ q) : GBak w0 w' p v L D ds q vr bs 0 := by
  have h1 := h.a.lt
  have h2 := h.a.lt2
  have h3 := h.fr.size
  have h4 := h.d.lt
  refine ⟨h.fr0 hf, hR, by omega, by simp; omega, fun k hk => ?_, fun k hk => ?_⟩
  · have := h2 k hk; simp; omega
  · have := h4 k hk; simp; omega
end

/-- What has been done up to now. -/
def GDid (i : Nat) (L : List Bool) (ds : List Nat) : Prop := L.length ≤ 64 * i ∧ ds.length ≤ i ∧ codes ds = L ∧ ∀ x ∈ ds, x ≤ 4294967294
theorem GDid.skip {i : Nat} {L : List Bool} {ds : List Nat} (h : GDid i L ds) : GDid (i + 1) L ds := ⟨by have := h.1; omega, by have := h.2.1; omega, h.2.2⟩
theorem GDid.put {i : Nat} {L : List Bool} {ds : List Nat} {y : Nat} (h : GDid i L ds) (hy : y ≤ 4294967294) : GDid (i + 1) (L ++ code y) (ds ++ [y]) := by
  obtain ⟨h1, h2, h3, h4⟩ := h
  have := clen_le hy
  refine ⟨by simp; omega, by simp; omega, by rw [codes_append, h3, codes_one], ?_⟩
  intro x hx
  rcases List.mem_append.1 hx with hx | hx
  · exact h4 x hx
  · simp at hx; subst hx; exact hy

set_option maxRecDepth 100000 in
set_option maxHeartbeats 8000000 in
theorem gback_any (A : Option Addr) (n ca : Nat) (l : List UInt64) (xx : Int) (w : World) (hA : Src w (.slice A n ca) (l.map C64)) (hln : l.length = n) (hn : n ≤ 9223372036854775807) :
    Calls Try.prog 6 #[.slice A n ca, .int .i64 xx] w fun e w' => e = .returned (.bool true) ∧ Fr [] w w' := by
  have HA := Lib.hid hA; clear hA
  have Hln := Lib.hid hln; clear hln
  go_enter Try.func6, Try.ntmps6
  go_wp2_with fail
  refine (new_any w).mono ?_
  rintro e w1 ⟨rfl, hw1⟩
  have hP : GPen w w1 w.heap.size (.slice none 0 0) [] (.slice none 0 0) [] := by
    rw [hw1]
    exact ⟨Wr.new w, ⟨Nat.le_refl _, by simp [Value.ownBlock]⟩, Own.nil _ _, by simp [Value.ownBlock], (Fr.refl _ _).alloc _⟩
  clear hw1
  obtain ⟨p, hp⟩ : ∃ p, p = w.heap.size := ⟨_, rfl⟩
  rw [← hp]
  rw [← hp] at hP
  clear hp
  have HP := Lib.hid hP; clear hP
  go_wp2_with fail
  go_loopw [6, 7] (fun s6 s7 wr => ∃ (i : Nat) (v : Value) (L : List Bool) (ds : List Nat), i ≤ n ∧ i ≤ 100 ∧ s7 = .int .i64 (i : Int) ∧ GDid i L ds ∧ GPen w wr p v L s6 ds) (fun _ s7 _ => 100 - (intOf s7).toNat)
  case atStart => exact ⟨0, _, [], [], by omega, by omega, rfl, ⟨by simp, by simp, rfl, by simp⟩, HP.out⟩
  case round =>
    obtain ⟨i, v, L, ds, hi1, hi2, rfl, hD, hP⟩ := hrel
    have hdl := hD.2.1
    have hLl := hD.1
    have HD := Lib.hid hD; clear hD
    by_cases hlt : i < n ∧ i < 100
    · obtain ⟨hlt1, hlt2⟩ := hlt
      obtain ⟨x, hx⟩ : ∃ x, l[i]? = some x := ⟨_, List.getElem?_eq_getElem (by have := Hln.out; omega)⟩
      obtain ⟨ad, rfl, -⟩ := (HA.out.fr0 hP.fr).cellAt hx
      obtain ⟨X, hX⟩ : ∃ X, X = x.toNat := ⟨_, rfl⟩
      have hcell : ∀ W, Fr [] w W → W.cell? (ad.add i) = some (.int .u64 (X : Int)) := fun W hf => by
        obtain ⟨ad', e, c⟩ := (HA.out.fr0 hf).cellAt hx
        injection e with e
        subst e
        rw [c, hX]; rfl
      have c0 := hcell _ hP.fr
      have Hcell := Lib.hid hcell
      have HP2 := Lib.hid hP; clear hP hx hX hcell
      have eg : decide (i < n) = true := by simpa using hlt1
      have eg2 : decide ((i : Int) < 100) = true := by simp; omega
      have hLb : L.length ≤ 100000000000 := by omega
      obtain ⟨K, hK⟩ : ∃ K, K = L.length := ⟨_, rfl⟩
      have hC := wlen_any wr p v L HP2.out.a
      rw [← hK] at hC
      have HC := Lib.hid hC; clear hC
      have HK := Lib.hid hK; clear hK
      have hKl : K ≤ 6400 := by rw [HK.out]; omega
      by_cases hmax : X ≤ 4294967294
      · have HG := Lib.hid (gput_ok p v L X wr HP2.out.a hmax hLb)
        go_wp2_with fail
        refine HC.out.mono ?_
        rintro e w2 ⟨rfl, rfl⟩
        go_wp2_with fail
        refine HG.out.mono ?_
        rintro e w3 ⟨rfl, v3, hW3, hG3⟩
        have hP3 := HP2.out.put hG3 hW3
        have c3 := Hcell.out _ hP3.fr
        have HP3 := Lib.hid hP3
        clear HC HG hW3 hG3 hP3 c0
        go_wp2_with (at_builtin; go_loud (refine wp_append_u64 _ _ u6 ds (.slice (some ⟨w3.heap.size, 0, none⟩) 1 1) [X] rfl rfl rfl rfl (HP3.out.d.alloc _) (Src.one (by simp [go_sem]; rfl)) (by simp; omega) ?_))
        intro D4 w4 hO4 hG4
        have hO4' : Own w4 22 D4 ((ds ++ [X]).map N64) := by simpa using hO4
        have hP4 := (HP3.out.fr0 ((Fr.refl _ _).alloc _)).app hG4 hO4'
        have c4 := Hcell.out _ hP4.fr
        have HP4 := Lib.hid hP4
        clear hO4 hO4' hG4 hP4 HP3 c3
        obtain ⟨C, hC⟩ : ∃ C, C = clen X := ⟨_, rfl⟩
        have hCl := clen_le hmax
        have HL4 := fun k => Lib.hid (glen_any X (w4.drewN k) hmax)
        rw [← hC] at HL4 hCl
        obtain ⟨M, hM⟩ : ∃ M, M = (L ++ code X).length := ⟨_, rfl⟩
        have HC4 := fun k => Lib.hid (wlen_any (w4.drewN k) p v3 _ ((HP4.out.fr0 ((Fr.refl _ _).drewN k)).a))
        rw [← hM] at HC4
        have eM : IntKind.i64.wrap ((M : Int) - (K : Int)) = (C : Int) := by
          rw [List.length_append, code_length, ← hC, ← HK.out] at hM
          rw [IntWalk.i64_in _ (by omega)]; omega
        have eC : ((C : Int) != (C : Int)) = false := by simp
        clear hM hC
        go_upto_region 9 with fail
        go_quiet (first | exact (HC4 _).out.mono fun _ _ x => ⟨x.1, _, x.2⟩ | exact (HL4 _).out.mono fun _ _ x => ⟨x.1, _, x.2⟩)
        go_wp2_with fail
        go_roundw
        case rel => exact ⟨i + 1, v3, _, _, by omega, by omega, by go_num, HD.out.put hmax, HP4.out.fr0 ((Fr.refl _ _).drewN _)⟩
        case measure => simp [intOf]; omega
      · have HG := Lib.hid (gput_big p X wr (by omega))
        have eK : ((K : Int) != (K : Int)) = false := by simp
        go_wp2_with fail
        refine HC.out.mono ?_
        rintro e w2 ⟨rfl, rfl⟩
        go_wp2_with fail
        refine HG.out.mono ?_
        rintro e w3 ⟨rfl, rfl⟩
        go_wp2_with fail
        refine HC.out.mono ?_
        rintro e w4 ⟨rfl, rfl⟩
        go_wp2_with fail
        go_roundw
        case rel => exact ⟨i + 1, v, _, _, by omega, by omega, by go_num, HD.out.skip, HP2.out⟩
        case measure => simp [intOf]; omega
    · have HP2 := Lib.hid hP; clear hP
      have hex : (i < n ∧ i = 100) ∨ i = n := by omega
      have hL6 : L.length ≤ 6400 := by omega
      have hd6 : ds.length ≤ 100 := by omega
      have HD2 : RowKit.Hid (codes ds = L ∧ ∀ x ∈ ds, x ≤ 4294967294) := Lib.hid HD.out.2.2
      clear hLl hdl HD hi1 hi2 hlt
      rcases hex with ⟨hlt1, hlt2⟩ | hlt1
      case' inl =>
        have eg : decide (i < n) = true := by simpa using hlt1
        have eg2 : decide ((i : Int) < 100) = false := by simp; omega
        clear hlt1 hlt2
        go_upto_region 13 with fail
        clear eg eg2
      case' inr =>
        have eg : decide (i < n) = false := by simp; omega
        clear hlt1
        go_upto_region 13 with fail
        clear eg
      all_goals
        have HB := Lib.hid (bytes_any wr p v L HP2.out.a (by omega))
        go_wp2_with fail
        refine HB.out.mono ?_
        rintro e w2 ⟨bs, hbs, c2, rfl, hO2, hF2⟩
        have HP3 := Lib.hid (HP2.out.fr0 hF2)
        have hbl : bs.length ≤ 801 := by rw [hbs.1]; omega
        have HO := Lib.hid (open_any _ bs w2 hO2.src (by omega))
        have Hbs := Lib.hid hbs
        clear HB HP2 hO2 hF2 hbs
        go_wp2_with fail
        refine HO.out.mono ?_
        rintro e w3 ⟨q, vr, rfl, hR3, hF3, hq, -⟩
        have hb3 := GBak.new HP3.out hF3 hR3 hq
        obtain ⟨A4, c4, rfl⟩ : ∃ A4 c4, u6 = .slice A4 ds.length c4 := by
          rcases hb3.pen.d.form with ⟨h1, h0⟩ | ⟨g, cap, cur, h1, -⟩
          · exact ⟨none, 0, by rw [h1, List.map_eq_nil_iff.1 h0]; rfl⟩
          · exact ⟨_, _, by rw [h1, List.length_map]⟩
        have HB3 := Lib.hid hb3
        clear HO HP3 hR3 hF3 hb3 hq
        go_wp2_with fail
        go_loopw [10] (fun s10 wr => ∃ (j : Nat), j ≤ ds.length ∧ s10 = .int .i64 (j : Int) ∧ GBak w wr p v L (.slice A4 ds.length c4) ds q vr bs (codes (ds.take j)).length) (fun s10 _ => 101 - (intOf s10).toNat)
        case atStart => exact ⟨0, by omega, rfl, by simpa [codes] using HB3.out⟩
        case round =>
          clear HB3
          obtain ⟨j, hj, rfl, hBk⟩ := hrel
          by_cases hlt : j < ds.length
          · obtain ⟨y, hy⟩ : ∃ y, ds[j]? = some y := ⟨_, List.getElem?_eq_getElem hlt⟩
            have hymax : y ≤ 4294967294 := HD2.out.2 y (List.mem_of_getElem? hy)
            have hG := gget_total q vr bs _ wr hBk.r (by omega)
            rw [gget_codes (by rw [HD2.out.1]; exact Hbs.out) j y hy hymax] at hG
            have HG := Lib.hid hG
            have HBk := Lib.hid hBk
            have eg : decide (j < ds.length) = true := by simpa using hlt
            clear hG hBk
            go_wp2_with fail
            refine HG.out.mono ?_
            rintro e w4 ⟨rfl, hR4, hF4⟩
            have hB4 := HBk.out.step hF4 hR4
            obtain ⟨g, rfl, d1', -, -, -⟩ := hB4.pen.d.cell (j := j) (by simpa using hlt)
            have d1 : w4.cell? ⟨g, j, none⟩ = some (.int .u64 (y : Int)) := by rw [d1', List.getElem?_map, hy]; rfl
            clear d1' hy
            have HB4 := Lib.hid hB4
            have eY : ((y : Int) != (y : Int)) = false := by simp
            clear HG HBk hR4 hF4
            rcases Nat.eq_zero_or_pos j with hj0 | hjpos
            · have e0 : decide (0 < j) = false := by simp; omega
              clear hB4 hj0
              go_upto_region 18 with fail
              go_quiet (fail)
              go_wp2_with fail
              go_roundw
              case rel => exact ⟨j + 1, by omega, by go_num, HB4.out.fr0 ((Fr.refl _ _).drewN _)⟩
              case measure => simp [intOf]; omega
            · obtain ⟨j', hj'⟩ : ∃ j', j = j' + 1 := ⟨j - 1, by omega⟩
              obtain ⟨z, hz⟩ : ∃ z, ds[j']? = some z := ⟨_, List.getElem?_eq_getElem (by omega)⟩
              have hzmax : z ≤ 4294967294 := HD2.out.2 z (List.mem_of_getElem? hz)
              obtain ⟨g', e', d2', -, -, -⟩ := hB4.pen.d.cell (j := j') (by simp; omega)
              injection e' with e'
              injection e' with e'
              subst e'
              have d2 : w4.cell? ⟨g, j', none⟩ = some (.int .u64 (z : Int)) := by rw [d2', List.getElem?_map, hz]; rfl
              clear d2' hz
              have e0 : decide (0 < j) = true := by simp; omega
              have e1 : IntKind.i64.wrap ((j : Int) - 1) = (j' : Int) := by rw [IntWalk.i64_in _ (by omega)]; omega
              have hLt : ∀ (t k : Nat), (t = y ∨ t = z) → Calls Try.prog 13 #[.int .u64 (t : Int)] (w4.drewN k) fun e w' => e = .returned (.int .i64 (clen t : Int)) ∧ w' = w4.drewN k :=
                fun t k ht => glen_any t (w4.drewN k) (by rcases ht with h | h <;> rw [h] <;> assumption)
              have HLt := Lib.hid hLt
              clear hLt
              have hj'l : j' < ds.length := by omega
              have Hj' := Lib.hid hj'
              clear hB4 hj'
              by_cases hyz : z ≤ y
              · have e2 : decide (z ≤ y) = true := by simp; omega
                have hm := clen_mono hyz
                have e3 : decide (clen y < clen z) = false := by simp; omega
                go_upto_region 18 with fail
                go_quiet (exact (HLt.out _ _ (by first | exact .inl rfl | exact .inr rfl)).mono fun _ _ x => ⟨x.1, _, x.2⟩)
                go_wp2_with fail
                go_roundw
                case rel => exact ⟨j + 1, by omega, by go_num, HB4.out.fr0 ((Fr.refl _ _).drewN _)⟩
                case measure => simp [intOf]; omega
              · have e2 : decide (z ≤ y) = false := by simp; omega
                go_upto_region 18 with fail
                go_quiet (fail)
                go_wp2_with fail
                go_roundw
                case rel => exact ⟨j + 1, by omega, by go_num, HB4.out.fr0 ((Fr.refl _ _).drewN _)⟩
                case measure => simp [intOf]; omega
          · have hjd : j = ds.length := by omega
            have hBk2 : GBak w wr p v L (.slice A4 ds.length c4) ds q vr bs L.length := by
              have := hBk
              rw [hjd, List.take_of_length_le (Nat.le_refl _), HD2.out.1] at this
              exact this
            have eg : decide (j < ds.length) = false := by simpa using hlt
            have HBk := Lib.hid hBk2
            clear hBk hBk2 hjd hlt
            obtain ⟨K, hK⟩ : ∃ K, K = L.length := ⟨_, rfl⟩
            have eK : ((K : Int) == (K : Int)) = true := by simp
            by_cases hfo : folds xx
            · have HFo := Lib.hid (gfold_in xx wr hfo)
              have hfl := folded_le hfo
              have hun := unfolded_folded hfo
              generalize folded xx = F at HFo hfl hun
              have eF : decide ((F : Int) ≤ 4294967294) = true := by simp; omega
              go_wp2_with fail
              refine HFo.out.mono ?_
              rintro e w4 ⟨rfl, rfl⟩
              go_wp2_with fail
              refine (alive2_any _).mono ?_
              rintro e w5 ⟨rfl, hF5⟩
              have hb5 := HBk.out.fr0 hF5
              have hA5 := at_any w5 q vr bs _ hb5.r
              have hL5 := wlen_any w5 p v L hb5.pen.a
              rw [← hK] at hA5 hL5
              have HA5 := Lib.hid hA5
              have HL5 := Lib.hid hL5
              have hend := hb5.pen.fr
              clear hA5 hL5 hb5 hF5 HBk
              have HU := Lib.hid (gunfold_any F w5 hfl)
              rw [hun] at HU
              have HK := Lib.hid hK
              clear hK hun
              go_wp2_with fail
              refine HA5.out.mono ?_
              rintro e w6 ⟨rfl, rfl⟩
              go_wp2_with fail
              refine HL5.out.mono ?_
              rintro e w7 ⟨rfl, rfl⟩
              go_wp2_with fail
              refine HU.out.mono ?_
              rintro e w8 ⟨rfl, rfl⟩
              have ex : (xx == xx) = true := by simp
              go_wp2_with fail
              go_ret
              exact ⟨rfl, hend⟩
            · have HFo := Lib.hid (gfold_out xx wr hfo)
              go_wp2_with fail
              refine HFo.out.mono ?_
              rintro e w4 ⟨rfl, rfl⟩
              go_wp2_with fail
              refine (alive2_any _).mono ?_
              rintro e w5 ⟨rfl, hF5⟩
              have hb5 := HBk.out.fr0 hF5
              have hA5 := at_any w5 q vr bs _ hb5.r
              have hL5 := wlen_any w5 p v L hb5.pen.a
              rw [← hK] at hA5 hL5
              have HA5 := Lib.hid hA5
              have HL5 := Lib.hid hL5
              have hend := hb5.pen.fr
              clear hA5 hL5 hb5 hF5 HBk
              have HK := Lib.hid hK
              clear hK
              go_wp2_with fail
              refine HA5.out.mono ?_
              rintro e w6 ⟨rfl, rfl⟩
              go_wp2_with fail
              refine HL5.out.mono ?_
              rintro e w7 ⟨rfl, rfl⟩
              go_wp2_with fail
              go_ret
              exact ⟨rfl, hend⟩
end Go.Proofs.Ytpdmjgcheigooaa
