/-
  What several laws' proofs lean on, part 2; each part says its conditions below.
-/
import Derived.Test.YtlcjlgdcleenlaaRows
import Derived.Laws.CopyOwn
import Derived.Laws.Rows
import Derived.Lib.SliceRun
import Derived.Test.YtlcjlgdcleenlaaAll1
/-
  Contracts of the document's frames: Whole.
-/
namespace Go.Proofs.Ytlcjlgdcleenlaa
open Go.RowKit

theorem FrAt.right {a : FrAt} {P : Pl} {w W : World} (h : a.has w P) (hn : P.pix.length ≤ 1000000000000) :
    Calls Try.prog 44 #[.agg #[.int .i64 a.W, .int .i64 a.H, .slice a.A a.n a.c]] W fun e w' => e = .returned (.bool P.ok) ∧ Fr [] W w' := by
  obtain ⟨e1, e2, e3, e4⟩ := h
  have := rright_pl a.W a.H a.A a.c P.pix W hn
  rw [show (⟨a.W, a.H, P.pix⟩ : Pl) = P by rw [e1, e2], ← e3] at this
  exact this

set_option maxRecDepth 20000 in
set_option maxHeartbeats 8000000 in
theorem rwhole_any (y u v : FrAt) (F : Frm) (w : World) (h1 : y.has w F.y) (h2 : u.has w F.u) (h3 : v.has w F.v) (n1 : F.y.pix.length ≤ 1000000000000) (n2 : F.u.pix.length ≤ 1000000000000) (n3 : F.v.pix.length ≤ 1000000000000) :
    Calls Try.prog 28 #[frV y u v] w fun e w' => e = .returned (.bool F.whole) ∧ Fr [] w w' := by
  have HS1 := Lib.hid fun W => FrAt.right (W := W) h1 n1
  have HS2 := Lib.hid fun W => FrAt.right (W := W) h2 n2
  have HS3 := Lib.hid fun W => FrAt.right (W := W) h3 n3
  have hw : F.whole = (F.y.ok && F.u.ok && F.v.ok && decide (y.W % 16 = 0) && decide (y.H % 16 = 0) && decide (u.W = y.W / 2) && decide (u.H = y.H / 2) && decide (v.W = u.W) && decide (v.H = u.H)) := by
    unfold Frm.whole
    rw [h1.1, h1.2.1, h2.1, h2.2.1, h3.1, h3.2.1]
  have hy : F.y.ok = true → ∃ W' H' : Nat, y.W = (W' : Int) ∧ y.H = (H' : Int) ∧ W' ≤ 4096 ∧ H' ≤ 4096 := fun hk => by
    obtain ⟨W', H', e1, e2, -, q1, -, q2, -⟩ := F.y.ok_nat hk
    exact ⟨W', H', h1.1.trans e1, h1.2.1.trans e2, q1, q2⟩
  obtain ⟨yW, yH, yA, yn, yc⟩ := y
  obtain ⟨uW, uH, uA, un, uc⟩ := u
  obtain ⟨vW, vH, vA, vn, vc⟩ := v
  simp only at HS1 HS2 HS3 hw hy
  obtain ⟨R, hR⟩ : ∃ R, R = F.whole := ⟨_, rfl⟩
  rw [← hR] at hw ⊢
  have Hw := Lib.hid hw; have Hy := Lib.hid hy
  have hB := Blk.new w 30 #[.int .i64 yW, .int .i64 yH, .slice yA yn yc, .int .i64 uW, .int .i64 uH, .slice uA un uc, .int .i64 vW, .int .i64 vH, .slice vA vn vc]
  have hF : Fr [] w (w.alloc (.cells #[.int .i64 yW, .int .i64 yH, .slice yA yn yc, .int .i64 uW, .int .i64 uH, .slice uA un uc, .int .i64 vW, .int .i64 vH, .slice vA vn vc] 30)) := (Fr.refl _ _).alloc _
  have HB := Lib.hid hB; have HF := Lib.hid hF
  clear hR hw hy hB hF h1 h2 h3
  unfold frV FrAt.cells
  simp only
  go_enter Try.func28, Try.ntmps28
  go_upto_region 1 with fail
  generalize World.alloc w _ = w1 at HB HF ⊢
  obtain ⟨g, hg⟩ : ∃ g, g = w.heap.size := ⟨_, rfl⟩
  rw [← hg] at HB ⊢
  clear hg
  have c0 := HB.out.cell 0
  have c1 := HB.out.cell 1
  have c2 := HB.out.cell 2
  have hlg := HB.out.lt
  simp at c0 c1 c2
  go_wp2_with fail
  refine (HS1.out _).mono ?_
  rintro e w2 ⟨rfl, hF2⟩
  have HB2 := Lib.hid (HB.out.fr hF2 (by simp)); have HF2 := Lib.hid (HF.out.trans hF2 (by simp))
  clear hF2 c0 c1 c2 hlg HB HF
  have c0 := HB2.out.cell 3
  have c1 := HB2.out.cell 4
  have c2 := HB2.out.cell 5
  have hlg := HB2.out.lt
  simp at c0 c1 c2
  go_wp2_with fail
  refine (HS2.out _).mono ?_
  rintro e w3 ⟨rfl, hF3⟩
  have HB3 := Lib.hid (HB2.out.fr hF3 (by simp)); have HF3 := Lib.hid (HF2.out.trans hF3 (by simp))
  clear hF3 c0 c1 c2 hlg HB2 HF2
  have c0 := HB3.out.cell 6
  have c1 := HB3.out.cell 7
  have c2 := HB3.out.cell 8
  have hlg := HB3.out.lt
  simp at c0 c1 c2
  go_wp2_with fail
  refine (HS3.out _).mono ?_
  rintro e w4 ⟨rfl, hF4⟩
  have HB4 := Lib.hid (HB3.out.fr hF4 (by simp)); have HF4 := Lib.hid (HF3.out.trans hF4 (by simp))
  clear hF4 c0 c1 c2 hlg HB3 HF3 HS1 HS2 HS3
  cases b1 : F.y.ok
  · rw [b1] at Hw
    go_wp2_with fail
    go_ret
    exact ⟨by rw [Hw.out]; rfl, HF4.out⟩
  · cases b2 : F.u.ok
    · rw [b1, b2] at Hw
      go_wp2_with fail
      go_ret
      exact ⟨by rw [Hw.out]; rfl, HF4.out⟩
    · cases b3 : F.v.ok
      · rw [b1, b2, b3] at Hw
        go_wp2_with fail
        go_ret
        exact ⟨by rw [Hw.out]; rfl, HF4.out⟩
      · rw [b1, b2, b3] at Hw
        obtain ⟨W', H', rfl, rfl, hW4, hH4⟩ := Hy.out b1
        have c0 := HB4.out.cell 0
        have c1 := HB4.out.cell 1
        have c3 := HB4.out.cell 3
        have c4 := HB4.out.cell 4
        have c6 := HB4.out.cell 6
        have c7 := HB4.out.cell 7
        have hlg := HB4.out.lt
        simp at c0 c1 c3 c4 c6 c7
        clear Hy b1 b2 b3
        go_wp2_with fail
        all_goals
          go_ret
          refine ⟨?_, HF4.out⟩
          have hw := Hw.out
          refine congrArg (fun z => Ending.returned (Value.bool z)) (?_ : _ = R)
          rw [hw]
          first
            | (simp_all; done)
            | (by_cases hq : vH = (H' : Int) / 2 <;> simp_all <;> done)
end Go.Proofs.Ytlcjlgdcleenlaa

/-
  Contracts of the document's frames: Blank.
-/
namespace Go.Proofs.Ytlcjlgdcleenlaa
open Go.RowKit

def zeroF : Array Value := #[.int .i64 0, .int .i64 0, .slice none 0 0, .int .i64 0, .int .i64 0, .slice none 0 0, .int .i64 0, .int .i64 0, .slice none 0 0]
def noAt : FrAt := ⟨0, 0, none, 0, 0⟩
theorem noAt_has (w : World) : noAt.has w plNone := ⟨rfl, rfl, rfl, .inl ⟨rfl, rfl⟩⟩
/-- A frame answered, with an error's number. -/
def FrPost (w : World) (F : Frm × Int) (e : Ending) (w' : World) : Prop :=
  ∃ y u v, e = .returned (.tuple #[frV y u v, .int .i64 F.2]) ∧ y.has w' F.1.y ∧ u.has w' F.1.u ∧ v.has w' F.1.v ∧ Fr [] w w'
theorem frPost_none {w w' : World} {F : Frm × Int} (hF : F = (frNone, 61)) (hf : Fr [] w w') : FrPost w F (.returned (.tuple #[.agg zeroF, .int .i64 61])) w' := by
  subst hF
  exact ⟨noAt, noAt, noAt, rfl, noAt_has _, noAt_has _, noAt_has _, hf⟩
theorem PlMine.at_ {w0 w : World} {u : Value} {P : Pl} (h : PlMine w0 w u P) : ∃ a : FrAt, u = .agg #[.int .i64 a.W, .int .i64 a.H, .slice a.A a.n a.c] ∧ a.has w P ∧ ∀ k, (Value.slice a.A a.n a.c).ownBlock = some k → w0.heap.size ≤ k := by
  obtain ⟨A, c, rfl, hM⟩ := h
  exact ⟨⟨P.w, P.h, A, P.pix.length, c⟩, rfl, ⟨rfl, rfl, rfl, hM.src⟩, hM.new⟩
theorem FrAt.has.frS {a : FrAt} {w w' : World} {P : Pl} {S : List Nat} (h : a.has w P) (hf : Fr S w w') (hS : ∀ k, (Value.slice a.A a.n a.c).ownBlock = some k → k ∉ S) : a.has w' P := ⟨h.1, h.2.1, h.2.2.1, h.2.2.2.fr hf hS⟩

theorem tmod16_ne {W : Int} (h : W % 16 ≠ 0) : (W.tmod 16 != 0) = true := by
  have : W.tmod 16 ≠ 0 := fun e => h (Int.emod_eq_zero_of_dvd (Int.dvd_of_tmod_eq_zero e))
  simpa using this
theorem tmod16_eq {W : Int} (h : W % 16 = 0) : (W.tmod 16 != 0) = false := by
  have : W.tmod 16 = 0 := Int.tmod_eq_zero_of_dvd (Int.dvd_of_emod_eq_zero h)
  simp [this]

/-- The result's block, a frame of nothing yet. -/
structure ResF (w w1 : World) (r : Nat) : Prop where
  fr : Fr [] w w1
  new : w.heap.size ≤ r
  br : Blk w1 r 30 zeroF
theorem ResF.fr0 {w w1 w2 : World} {r : Nat} (h : ResF w w1 r) (hf : Fr [] w1 w2) : ResF w w2 r := ⟨h.fr.trans hf (by simp), h.new, h.br.fr hf (by simp)⟩

/-- The result's block with nine cells stored. -/
def store9 (w : World) (r : Nat) (a b c d e f g h i : Value) : World :=
  ((((((((w.setCell ⟨r, 0, none⟩ a).setCell ⟨r, 1, none⟩ b).setCell ⟨r, 2, none⟩ c).setCell ⟨r, 3, none⟩ d).setCell ⟨r, 4, none⟩ e).setCell ⟨r, 5, none⟩ f).setCell ⟨r, 6, none⟩ g).setCell ⟨r, 7, none⟩ h).setCell ⟨r, 8, none⟩ i
theorem ResF.stored {w w1 : World} {r : Nat} (hR : ResF w w1 r) (a b c d e f g h i : Value) :
    Blk (store9 w1 r a b c d e f g h i) r 30 #[a, b, c, d, e, f, g, h, i] ∧ Fr [] w (store9 w1 r a b c d e f g h i) ∧ Fr [r] w1 (store9 w1 r a b c d e f g h i) := by
  have k : ∀ (S : List Nat) (w0 : World), Fr S w0 w1 → (r ∈ S ∨ w0.heap.size ≤ r) → Fr S w0 (store9 w1 r a b c d e f g h i) := by
    intro S w0 h0 hs
    unfold store9
    exact ((((((((h0.setCell hs _).setCell hs _).setCell hs _).setCell hs _).setCell hs _).setCell hs _).setCell hs _).setCell hs _).setCell hs _
  refine ⟨?_, k [] w hR.fr (.inr hR.new), k [r] w1 (Fr.refl _ _) (.inl (by simp))⟩
  have := ((((((((hR.br.set_ 0 a).set_ 1 b).set_ 2 c).set_ 3 d).set_ 4 e).set_ 5 f).set_ 6 g).set_ 7 h).set_ 8 i
  unfold store9
  simpa [zeroF] using this

set_option maxRecDepth 20000 in
set_option maxHeartbeats 4000000 in
theorem rblank_bad (W H : Int) (v : UInt8) (w : World) (h : ¬ (W % 16 = 0 ∧ H % 16 = 0 ∧ sideOk W = true ∧ sideOk H = true)) :
    Calls Try.prog 14 #[.int .i64 W, .int .i64 H, .int .u8 (v.toNat : Int)] w (FrPost w (frBlank W H v)) := by
  have hb : frBlank W H v = (frNone, 61) := by
    unfold frBlank
    rw [if_neg]
    simp only [Bool.and_eq_true, decide_eq_true_eq]
    exact fun k => h ⟨k.1.1.1, k.1.1.2, k.1.2, k.2⟩
  rw [hb]
  have hend := fun w' (hf : Fr [] w w') => frPost_none (w := w) (w' := w') rfl hf
  obtain ⟨L, hL⟩ : ∃ L, L = FrPost w (frNone, 61) := ⟨_, rfl⟩
  rw [← hL] at hend ⊢
  have Hend := Lib.hid hend
  have HNew := Lib.hid fun w => rnewP_any W H v w
  have hcase : W % 16 ≠ 0 ∨ (W % 16 = 0 ∧ H % 16 ≠ 0) ∨ (W % 16 = 0 ∧ H % 16 = 0 ∧ plNew W H v = (plNone, 61)) := by
    by_cases h1 : W % 16 = 0
    · by_cases h2 : H % 16 = 0
      · refine .inr (.inr ⟨h1, h2, ?_⟩)
        unfold plNew
        rw [if_neg]
        simp only [Bool.and_eq_true]
        exact fun k => h ⟨h1, h2, k.1, k.2⟩
      · exact .inr (.inl ⟨h1, h2⟩)
    · exact .inl h1
  clear hb hend hL h
  rcases hcase with h1 | ⟨h1, h2⟩ | ⟨h1, h2, h3⟩
  · have t1 := tmod16_ne h1
    clear h1
    go_enter Try.func14, Try.ntmps14
    go_upto_region 1 with fail
    have HR := Lib.hid (show ResF w (w.alloc (.cells #[.int .i64 0, .int .i64 0, .slice none 0 0, .int .i64 0, .int .i64 0, .slice none 0 0, .int .i64 0, .int .i64 0, .slice none 0 0] 30)) w.heap.size from ⟨(Fr.refl _ _).alloc _, Nat.le_refl _, Blk.new w 30 zeroF⟩)
    generalize w.alloc (.cells #[.int .i64 0, .int .i64 0, .slice none 0 0, .int .i64 0, .int .i64 0, .slice none 0 0, .int .i64 0, .int .i64 0, .slice none 0 0] 30) = w1 at HR ⊢
    obtain ⟨r, hr⟩ : ∃ r, r = w.heap.size := ⟨_, rfl⟩
    rw [← hr] at HR ⊢
    clear hr
    have d0 := HR.out.br.cell 0
    have d1 := HR.out.br.cell 1
    have d2 := HR.out.br.cell 2
    have d3 := HR.out.br.cell 3
    have d4 := HR.out.br.cell 4
    have d5 := HR.out.br.cell 5
    have d6 := HR.out.br.cell 6
    have d7 := HR.out.br.cell 7
    have d8 := HR.out.br.cell 8
    have f0 := HR.out.br.frozen 0
    have f1 := HR.out.br.frozen 1
    have f2 := HR.out.br.frozen 2
    have f3 := HR.out.br.frozen 3
    have f4 := HR.out.br.frozen 4
    have f5 := HR.out.br.frozen 5
    have f6 := HR.out.br.frozen 6
    have f7 := HR.out.br.frozen 7
    have f8 := HR.out.br.frozen 8
    have hlr := HR.out.br.lt
    simp [zeroF] at d0 d1 d2 d3 d4 d5 d6 d7 d8
    obtain ⟨hb5, hf5, -⟩ := HR.out.stored (.int .i64 0) (.int .i64 0) (.slice none 0 0) (.int .i64 0) (.int .i64 0) (.slice none 0 0) (.int .i64 0) (.int .i64 0) (.slice none 0 0)
    unfold store9 at hb5 hf5
    have HB5 := Lib.hid hb5; have HF5 := Lib.hid hf5
    clear hb5 hf5
    go_wp2_with fail
    refine bodyPost_ret (results_row_tmp Try.results14 _ _ r 30 _ (0, 0) _ rfl HB5.out.here Try.underlying30 rfl (by kernel_rfl)) rfl ?_
    exact Hend.out _ HF5.out
  · have t1 := tmod16_eq h1
    have t2 := tmod16_ne h2
    clear h1 h2
    go_enter Try.func14, Try.ntmps14
    go_upto_region 1 with fail
    have HR := Lib.hid (show ResF w (w.alloc (.cells #[.int .i64 0, .int .i64 0, .slice none 0 0, .int .i64 0, .int .i64 0, .slice none 0 0, .int .i64 0, .int .i64 0, .slice none 0 0] 30)) w.heap.size from ⟨(Fr.refl _ _).alloc _, Nat.le_refl _, Blk.new w 30 zeroF⟩)
    generalize w.alloc (.cells #[.int .i64 0, .int .i64 0, .slice none 0 0, .int .i64 0, .int .i64 0, .slice none 0 0, .int .i64 0, .int .i64 0, .slice none 0 0] 30) = w1 at HR ⊢
    obtain ⟨r, hr⟩ : ∃ r, r = w.heap.size := ⟨_, rfl⟩
    rw [← hr] at HR ⊢
    clear hr
    have d0 := HR.out.br.cell 0
    have d1 := HR.out.br.cell 1
    have d2 := HR.out.br.cell 2
    have d3 := HR.out.br.cell 3
    have d4 := HR.out.br.cell 4
    have d5 := HR.out.br.cell 5
    have d6 := HR.out.br.cell 6
    have d7 := HR.out.br.cell 7
    have d8 := HR.out.br.cell 8
    have f0 := HR.out.br.frozen 0
    have f1 := HR.out.br.frozen 1
    have f2 := HR.out.br.frozen 2
    have f3 := HR.out.br.frozen 3
    have f4 := HR.out.br.frozen 4
    have f5 := HR.out.br.frozen 5
    have f6 := HR.out.br.frozen 6
    have f7 := HR.out.br.frozen 7
    have f8 := HR.out.br.frozen 8
    have hlr := HR.out.br.lt
    simp [zeroF] at d0 d1 d2 d3 d4 d5 d6 d7 d8
    obtain ⟨hb5, hf5, -⟩ := HR.out.stored (.int .i64 0) (.int .i64 0) (.slice none 0 0) (.int .i64 0) (.int .i64 0) (.slice none 0 0) (.int .i64 0) (.int .i64 0) (.slice none 0 0)
    unfold store9 at hb5 hf5
    have HB5 := Lib.hid hb5; have HF5 := Lib.hid hf5
    clear hb5 hf5
    go_wp2_with fail
    refine bodyPost_ret (results_row_tmp Try.results14 _ _ r 30 _ (0, 0) _ rfl HB5.out.here Try.underlying30 rfl (by kernel_rfl)) rfl ?_
    exact Hend.out _ HF5.out
  · have t1 := tmod16_eq h1
    have t2 := tmod16_eq h2
    rw [h3] at HNew
    clear h1 h2 h3
    go_enter Try.func14, Try.ntmps14
    go_upto_region 1 with fail
    have HR := Lib.hid (show ResF w (w.alloc (.cells #[.int .i64 0, .int .i64 0, .slice none 0 0, .int .i64 0, .int .i64 0, .slice none 0 0, .int .i64 0, .int .i64 0, .slice none 0 0] 30)) w.heap.size from ⟨(Fr.refl _ _).alloc _, Nat.le_refl _, Blk.new w 30 zeroF⟩)
    generalize w.alloc (.cells #[.int .i64 0, .int .i64 0, .slice none 0 0, .int .i64 0, .int .i64 0, .slice none 0 0, .int .i64 0, .int .i64 0, .slice none 0 0] 30) = w1 at HR ⊢
    obtain ⟨r, hr⟩ : ∃ r, r = w.heap.size := ⟨_, rfl⟩
    rw [← hr] at HR ⊢
    clear hr
    go_wp2_with fail
    refine (HNew.out _).mono ?_
    rintro e w2 ⟨u, rfl, hM⟩
    have HR2 := Lib.hid (HR.out.fr0 hM.fr)
    obtain ⟨A, c, rfl, -⟩ := hM
    clear HR
    unfold plV
    simp only [plNone, List.length_nil]
    go_upto_region 4 with fail
    have HR := Lib.hid (HR2.out.fr0 ((Fr.refl [] w2).alloc (.cells #[.int .i64 0, .int .i64 0, .slice A 0 c] 25)))
    generalize w2.alloc (.cells #[.int .i64 0, .int .i64 0, .slice A 0 c] 25) = w3 at HR ⊢
    clear HR2
    have d0 := HR.out.br.cell 0
    have d1 := HR.out.br.cell 1
    have d2 := HR.out.br.cell 2
    have d3 := HR.out.br.cell 3
    have d4 := HR.out.br.cell 4
    have d5 := HR.out.br.cell 5
    have d6 := HR.out.br.cell 6
    have d7 := HR.out.br.cell 7
    have d8 := HR.out.br.cell 8
    have f0 := HR.out.br.frozen 0
    have f1 := HR.out.br.frozen 1
    have f2 := HR.out.br.frozen 2
    have f3 := HR.out.br.frozen 3
    have f4 := HR.out.br.frozen 4
    have f5 := HR.out.br.frozen 5
    have f6 := HR.out.br.frozen 6
    have f7 := HR.out.br.frozen 7
    have f8 := HR.out.br.frozen 8
    have hlr := HR.out.br.lt
    simp [zeroF] at d0 d1 d2 d3 d4 d5 d6 d7 d8
    obtain ⟨hb5, hf5, -⟩ := HR.out.stored (.int .i64 0) (.int .i64 0) (.slice none 0 0) (.int .i64 0) (.int .i64 0) (.slice none 0 0) (.int .i64 0) (.int .i64 0) (.slice none 0 0)
    unfold store9 at hb5 hf5
    have HB5 := Lib.hid hb5; have HF5 := Lib.hid hf5
    clear hb5 hf5
    go_wp2_with fail
    refine bodyPost_ret (results_row_tmp Try.results14 _ _ r 30 _ (0, 0) _ rfl HB5.out.here Try.underlying30 rfl (by kernel_rfl)) rfl ?_
    exact Hend.out _ HF5.out
end Go.Proofs.Ytlcjlgdcleenlaa

/-
  Contracts of the document's frames: Blank of sides that may be.
-/
namespace Go.Proofs.Ytlcjlgdcleenlaa
open Go.RowKit

/-- A plane's block that holds the plane P. -/
structure PlBk (w : World) (q : Nat) (a : FrAt) (P : Pl) : Prop where
  bk : Blk w q 25 #[.int .i64 a.W, .int .i64 a.H, .slice a.A a.n a.c]
  has : a.has w P
theorem PlBk.fr0 {w w' : World} {q : Nat} {a : FrAt} {P : Pl} (h : PlBk w q a P) (hf : Fr [] w w') : PlBk w' q a P := ⟨h.bk.fr hf (by simp), h.has.fr0 hf⟩
theorem PlBk.new {w : World} {a : FrAt} {P : Pl} (h : a.has w P) : PlBk (w.alloc (.cells #[.int .i64 a.W, .int .i64 a.H, .slice a.A a.n a.c] 25)) w.heap.size a P := ⟨Blk.new _ _ _, h.fr0 ((Fr.refl _ _).alloc _)⟩

set_option maxRecDepth 20000 in
set_option maxHeartbeats 4000000 in
theorem rblank_good (W H : Nat) (v : UInt8) (w : World) (h1 : W % 16 = 0) (h2 : H % 16 = 0) (h3 : sideOk (W : Int) = true) (h4 : sideOk (H : Int) = true) :
    Calls Try.prog 14 #[.int .i64 (W : Int), .int .i64 (H : Int), .int .u8 (v.toNat : Int)] w (FrPost w (frBlank W H v)) := by
  have hb : frBlank W H v = (⟨(plNew W H v).1, (plNew ((W : Int) / 2) ((H : Int) / 2) v).1, (plNew ((W : Int) / 2) ((H : Int) / 2) v).1⟩, 0) := by
    unfold frBlank
    rw [if_pos]
    simp only [Bool.and_eq_true, decide_eq_true_eq]
    exact ⟨⟨⟨by omega, by omega⟩, h3⟩, h4⟩
  obtain ⟨q1, q2⟩ := sideOk_iff.1 h3
  obtain ⟨q3, q4⟩ := sideOk_iff.1 h4
  have e1 : (plNew W H v).2 = 0 := by unfold plNew; rw [if_pos (by rw [h3, h4]; rfl)]
  have e2 : (plNew ((W : Int) / 2) ((H : Int) / 2) v).2 = 0 := by
    unfold plNew
    rw [if_pos]
    simp [sideOk]
    omega
  rw [hb]
  obtain ⟨P, hP⟩ : ∃ P, P = (plNew W H v).1 := ⟨_, rfl⟩
  obtain ⟨Q, hQ⟩ : ∃ Q, Q = (plNew ((W : Int) / 2) ((H : Int) / 2) v).1 := ⟨_, rfl⟩
  have HN1 := Lib.hid fun w => rnewP_any W H v w
  have HN2 := Lib.hid fun w => rnewP_any ((W : Int) / 2) ((H : Int) / 2) v w
  rw [← hP, e1] at HN1
  rw [← hQ, e2] at HN2
  rw [← hP, ← hQ]
  have t1 : ((W : Int) % 16 != 0) = false := by simp; omega
  have t2 : ((H : Int) % 16 != 0) = false := by simp; omega
  obtain ⟨L, hL⟩ : ∃ L, L = FrPost w (⟨P, Q, Q⟩, 0) := ⟨_, rfl⟩
  rw [← hL]
  have HL := Lib.hid hL
  clear hb e1 e2 hP hQ hL h1 h2 h3 h4
  go_enter Try.func14, Try.ntmps14
  go_upto_region 1 with fail
  have HR := Lib.hid (show ResF w (w.alloc (.cells #[.int .i64 0, .int .i64 0, .slice none 0 0, .int .i64 0, .int .i64 0, .slice none 0 0, .int .i64 0, .int .i64 0, .slice none 0 0] 30)) w.heap.size from ⟨(Fr.refl _ _).alloc _, Nat.le_refl _, Blk.new w 30 zeroF⟩)
  generalize w.alloc (.cells #[.int .i64 0, .int .i64 0, .slice none 0 0, .int .i64 0, .int .i64 0, .slice none 0 0, .int .i64 0, .int .i64 0, .slice none 0 0] 30) = w1 at HR ⊢
  obtain ⟨r, hr⟩ : ∃ r, r = w.heap.size := ⟨_, rfl⟩
  rw [← hr] at HR ⊢
  clear hr
  go_wp2_with fail
  refine (HN1.out _).mono ?_
  rintro e w2 ⟨u, rfl, hM⟩
  have HR2 := Lib.hid (HR.out.fr0 hM.fr)
  obtain ⟨a1, rfl, ha1, hna1⟩ := hM.at_
  have Hna1 := Lib.hid (fun k hk => (by have := hna1 k hk; have := HR.out.br.lt; omega) : ∀ k, (Value.slice a1.A a1.n a1.c).ownBlock = some k → k ≠ r)
  clear hna1
  have hb1 := PlBk.new ha1
  have hf1 : Fr [] w2 (w2.alloc (.cells #[.int .i64 a1.W, .int .i64 a1.H, .slice a1.A a1.n a1.c] 25)) := (Fr.refl _ _).alloc _
  have HR3 := Lib.hid (HR2.out.fr0 hf1)
  clear HR hM ha1
  go_upto_region 4 with fail
  generalize w2.alloc (.cells #[.int .i64 a1.W, .int .i64 a1.H, .slice a1.A a1.n a1.c] 25) = w3 at hb1 hf1 HR3 ⊢
  obtain ⟨g1, hg1⟩ : ∃ g1, g1 = w2.heap.size := ⟨_, rfl⟩
  rw [← hg1] at hb1 ⊢
  have HB1 := Lib.hid hb1
  clear hb1 hf1 hg1 HR2
  go_wp2_with fail
  refine (HN2.out _).mono ?_
  rintro e w4 ⟨u, rfl, hM⟩
  have HR4 := Lib.hid (HR3.out.fr0 hM.fr); have HB14 := Lib.hid (HB1.out.fr0 hM.fr)
  obtain ⟨a2, rfl, ha2, hna2⟩ := hM.at_
  have Hna2 := Lib.hid (fun k hk => (by have := hna2 k hk; have := HR3.out.br.lt; omega) : ∀ k, (Value.slice a2.A a2.n a2.c).ownBlock = some k → k ≠ r)
  clear hna2
  have hb2 := PlBk.new ha2
  have hf2 : Fr [] w4 (w4.alloc (.cells #[.int .i64 a2.W, .int .i64 a2.H, .slice a2.A a2.n a2.c] 25)) := (Fr.refl _ _).alloc _
  have HR5 := Lib.hid (HR4.out.fr0 hf2); have HB15 := Lib.hid (HB14.out.fr0 hf2)
  clear HR3 HB1 hM ha2
  go_upto_region 7 with fail
  generalize w4.alloc (.cells #[.int .i64 a2.W, .int .i64 a2.H, .slice a2.A a2.n a2.c] 25) = w5 at hb2 hf2 HR5 HB15 ⊢
  obtain ⟨g2, hg2⟩ : ∃ g2, g2 = w4.heap.size := ⟨_, rfl⟩
  rw [← hg2] at hb2 ⊢
  have HB2 := Lib.hid hb2
  clear hb2 hf2 hg2 HR4 HB14
  go_wp2_with fail
  refine (HN2.out _).mono ?_
  rintro e w6 ⟨u, rfl, hM⟩
  have HR6 := Lib.hid (HR5.out.fr0 hM.fr); have HB16 := Lib.hid (HB15.out.fr0 hM.fr); have HB26 := Lib.hid (HB2.out.fr0 hM.fr)
  obtain ⟨a3, rfl, ha3, hna3⟩ := hM.at_
  have Hna3 := Lib.hid (fun k hk => (by have := hna3 k hk; have := HR5.out.br.lt; omega) : ∀ k, (Value.slice a3.A a3.n a3.c).ownBlock = some k → k ≠ r)
  clear hna3
  have hb3 := PlBk.new ha3
  have hf3 : Fr [] w6 (w6.alloc (.cells #[.int .i64 a3.W, .int .i64 a3.H, .slice a3.A a3.n a3.c] 25)) := (Fr.refl _ _).alloc _
  have HR7 := Lib.hid (HR6.out.fr0 hf3); have HB17 := Lib.hid (HB16.out.fr0 hf3); have HB27 := Lib.hid (HB26.out.fr0 hf3)
  clear HR5 HB15 HB2 hM ha3
  go_upto_region 8 with fail
  generalize w6.alloc (.cells #[.int .i64 a3.W, .int .i64 a3.H, .slice a3.A a3.n a3.c] 25) = w7 at hb3 hf3 HR7 HB17 HB27 ⊢
  obtain ⟨g3, hg3⟩ : ∃ g3, g3 = w6.heap.size := ⟨_, rfl⟩
  rw [← hg3] at hb3 ⊢
  have HB37 := Lib.hid hb3
  clear hb3 hf3 hg3 HR6 HB16 HB26
  obtain ⟨W1, H1, A1, n1, c1⟩ := a1
  obtain ⟨W2, H2, A2, n2, c2⟩ := a2
  obtain ⟨W3, H3, A3, n3, c3⟩ := a3
  simp only
  have k0 := HB17.out.bk.cell 0
  have k1 := HB17.out.bk.cell 1
  have k2 := HB17.out.bk.cell 2
  have l0 := HB27.out.bk.cell 0
  have l1 := HB27.out.bk.cell 1
  have l2 := HB27.out.bk.cell 2
  have m0 := HB37.out.bk.cell 0
  have m1 := HB37.out.bk.cell 1
  have m2 := HB37.out.bk.cell 2
  have d0 := HR7.out.br.cell 0
  have d1 := HR7.out.br.cell 1
  have d2 := HR7.out.br.cell 2
  have d3 := HR7.out.br.cell 3
  have d4 := HR7.out.br.cell 4
  have d5 := HR7.out.br.cell 5
  have d6 := HR7.out.br.cell 6
  have d7 := HR7.out.br.cell 7
  have d8 := HR7.out.br.cell 8
  have f0 := HR7.out.br.frozen 0
  have f1 := HR7.out.br.frozen 1
  have f2 := HR7.out.br.frozen 2
  have f3 := HR7.out.br.frozen 3
  have f4 := HR7.out.br.frozen 4
  have f5 := HR7.out.br.frozen 5
  have f6 := HR7.out.br.frozen 6
  have f7 := HR7.out.br.frozen 7
  have f8 := HR7.out.br.frozen 8
  have hlr := HR7.out.br.lt
  have hl1 := HB17.out.bk.lt
  have hl2 := HB27.out.bk.lt
  have hl3 := HB37.out.bk.lt
  simp [zeroF] at d0 d1 d2 d3 d4 d5 d6 d7 d8 k0 k1 k2 l0 l1 l2 m0 m1 m2
  obtain ⟨hb5, hf5, hf6⟩ := HR7.out.stored (.int .i64 W1) (.int .i64 H1) (.slice A1 n1 c1) (.int .i64 W2) (.int .i64 H2) (.slice A2 n2 c2) (.int .i64 W3) (.int .i64 H3) (.slice A3 n3 c3)
  unfold store9 at hb5 hf5 hf6
  have HB5 := Lib.hid hb5; have HF5 := Lib.hid hf5; have HF6 := Lib.hid hf6
  clear hb5 hf5 hf6
  go_wp2_with fail
  refine bodyPost_ret (results_row_tmp Try.results14 _ _ r 30 _ (0, 0) _ rfl HB5.out.here Try.underlying30 rfl (by kernel_rfl)) rfl ?_
  rw [HL.out]
  exact ⟨⟨W1, H1, A1, n1, c1⟩, ⟨W2, H2, A2, n2, c2⟩, ⟨W3, H3, A3, n3, c3⟩, rfl, HB17.out.has.frS HF6.out (fun k hk => by simpa using Hna1.out k hk), HB27.out.has.frS HF6.out (fun k hk => by simpa using Hna2.out k hk), HB37.out.has.frS HF6.out (fun k hk => by simpa using Hna3.out k hk), HF5.out⟩

theorem rblank_any (W H : Int) (v : UInt8) (w : World) : Calls Try.prog 14 #[.int .i64 W, .int .i64 H, B8 v] w (FrPost w (frBlank W H v)) := by
  show Calls Try.prog 14 #[.int .i64 W, .int .i64 H, .int .u8 (v.toNat : Int)] w _
  by_cases h : W % 16 = 0 ∧ H % 16 = 0 ∧ sideOk W = true ∧ sideOk H = true
  · obtain ⟨h1, h2, h3, h4⟩ := h
    have q1 := sideOk_iff.1 h3
    have q2 := sideOk_iff.1 h4
    obtain ⟨W', rfl⟩ : ∃ W' : Nat, W = (W' : Int) := ⟨W.toNat, by omega⟩
    obtain ⟨H', rfl⟩ : ∃ H' : Nat, H = (H' : Int) := ⟨H.toNat, by omega⟩
    exact rblank_good W' H' v w (by omega) (by omega) h3 h4
  · exact rblank_bad W H v w h
end Go.Proofs.Ytlcjlgdcleenlaa

/-
  Contracts of the document's frames: Down.
-/
namespace Go.Proofs.Ytlcjlgdcleenlaa
open Go.RowKit

theorem FrAt.half {a : FrAt} {P : Pl} {w : World} (h : a.has w P) (hn : P.pix.length ≤ 1000000000000) :
    Calls Try.prog 22 #[.agg #[.int .i64 a.W, .int .i64 a.H, .slice a.A a.n a.c]] w fun e w' => ∃ u, e = .returned (.tuple #[u, .int .i64 P.half.2]) ∧ PlMine w w' u P.half.1 := by
  obtain ⟨e1, e2, e3, e4⟩ := h
  rw [e3] at e4
  have := rhalf_any a.W a.H a.A a.c P.pix w e4 hn
  unfold HalfPost at this
  rw [show (⟨a.W, a.H, P.pix⟩ : Pl) = P by rw [e1, e2], ← e3] at this
  exact this
theorem half_len (P : Pl) (_h : P.pix.length ≤ 1000000000000) : P.half.1.pix.length ≤ 1000000000000 := by
  by_cases hk : P.ok = true ∧ P.w % 2 = 0 ∧ P.h % 2 = 0
  · rw [half_ok hk]
    obtain ⟨W, H, e1, e2, a1, a2, b1, b2, -⟩ := P.ok_nat hk.1
    simp only [List.length_map, List.length_range]
    have : (P.w / 2).toNat * (P.h / 2).toNat ≤ 4096 * 4096 := Nat.mul_le_mul (by omega) (by omega)
    omega
  · rw [half_not hk]; simp [plNone]

theorem down_none {F : Frm} (h : ¬ (F.whole = true ∧ F.halved.whole = true)) : F.down = (frNone, 61) := by
  unfold Frm.down
  rw [if_neg]
  simpa using h
theorem down_ok {F : Frm} (h : F.whole = true ∧ F.halved.whole = true) : F.down = (F.halved, 0) := by
  unfold Frm.down
  rw [if_pos]
  simpa using h

set_option maxRecDepth 20000 in
set_option maxHeartbeats 8000000 in
theorem rdown_any (y u v : FrAt) (F : Frm) (w : World) (h1 : y.has w F.y) (h2 : u.has w F.u) (h3 : v.has w F.v) (n1 : F.y.pix.length ≤ 1000000000000) (n2 : F.u.pix.length ≤ 1000000000000) (n3 : F.v.pix.length ≤ 1000000000000) :
    Calls Try.prog 26 #[frV y u v] w (FrPost w F.down) := by
  have HWh := Lib.hid fun W (hf : Fr [] w W) => rwhole_any y u v F W (h1.fr0 hf) (h2.fr0 hf) (h3.fr0 hf) n1 n2 n3
  have HWo := Lib.hid fun W (a b c : FrAt) (k1 : a.has W F.halved.y) (k2 : b.has W F.halved.u) (k3 : c.has W F.halved.v) => rwhole_any a b c F.halved W k1 k2 k3 (half_len _ n1) (half_len _ n2) (half_len _ n3)
  have HH1 := Lib.hid fun W (hf : Fr [] w W) => FrAt.half (h1.fr0 hf) n1
  have HH2 := Lib.hid fun W (hf : Fr [] w W) => FrAt.half (h2.fr0 hf) n2
  have HH3 := Lib.hid fun W (hf : Fr [] w W) => FrAt.half (h3.fr0 hf) n3
  obtain ⟨yW, yH, yA, yn, yc⟩ := y
  obtain ⟨uW, uH, uA, un, uc⟩ := u
  obtain ⟨vW, vH, vA, vn, vc⟩ := v
  simp only at HH1 HH2 HH3
  have hT := pairT 30 w #[.int .i64 yW, .int .i64 yH, .slice yA yn yc, .int .i64 uW, .int .i64 uH, .slice uA un uc, .int .i64 vW, .int .i64 vH, .slice vA vn vc] zeroF
  unfold zeroF at hT
  have HT := Lib.hid hT
  have hendN : ¬ (F.whole = true ∧ F.halved.whole = true) → ∀ w', Fr [] w w' → FrPost w F.down (.returned (.tuple #[.agg zeroF, .int .i64 61])) w' := fun hn w' hf => frPost_none (w := w) (w' := w') (down_none hn) hf
  have hendY : F.whole = true ∧ F.halved.whole = true → F.down = (F.halved, 0) := down_ok
  obtain ⟨L, hL⟩ : ∃ L, L = FrPost w F.down := ⟨_, rfl⟩
  rw [← hL] at hendN ⊢
  have HL := Lib.hid hL; have HN := Lib.hid hendN; have HY := Lib.hid hendY
  clear hT hL hendN hendY h1 h2 h3
  unfold frV FrAt.cells at HWh ⊢
  simp only at HWh ⊢
  go_enter Try.func26, Try.ntmps26
  go_upto_region 1 with fail
  generalize World.alloc (World.alloc w _) _ = w1 at HT ⊢
  obtain ⟨g, hg⟩ : ∃ g, g = w.heap.size := ⟨_, rfl⟩
  rw [← hg] at HT ⊢
  obtain ⟨r, hr⟩ : ∃ r, r = g + 1 := ⟨_, rfl⟩
  rw [← hr] at HT ⊢
  clear hg hr
  have c0 := HT.out.bg.cell 0
  have c1 := HT.out.bg.cell 1
  have c2 := HT.out.bg.cell 2
  have c3 := HT.out.bg.cell 3
  have c4 := HT.out.bg.cell 4
  have c5 := HT.out.bg.cell 5
  have c6 := HT.out.bg.cell 6
  have c7 := HT.out.bg.cell 7
  have c8 := HT.out.bg.cell 8
  have hlg := HT.out.bg.lt
  simp at c0 c1 c2 c3 c4 c5 c6 c7 c8
  go_wp2_with fail
  refine (HWh.out _ HT.out.fr).mono ?_
  rintro e w2 ⟨rfl, hF2⟩
  have HT2 := Lib.hid (HT.out.fr0 hF2)
  clear hF2 c0 c1 c2 c3 c4 c5 c6 c7 c8 hlg HT HWh
  have HR : Hid (ResF w w2 r) := Lib.hid ⟨HT2.out.fr, by rw [HT2.out.er, HT2.out.eg]; omega, HT2.out.br⟩
  cases bw : F.whole
  · have Hend := Lib.hid fun w' hf => HN.out (by rw [bw]; simp) w' hf
    clear HN HY bw HWo HH1 HH2 HH3
    have d0 := HR.out.br.cell 0
    have d1 := HR.out.br.cell 1
    have d2 := HR.out.br.cell 2
    have d3 := HR.out.br.cell 3
    have d4 := HR.out.br.cell 4
    have d5 := HR.out.br.cell 5
    have d6 := HR.out.br.cell 6
    have d7 := HR.out.br.cell 7
    have d8 := HR.out.br.cell 8
    have f0 := HR.out.br.frozen 0
    have f1 := HR.out.br.frozen 1
    have f2 := HR.out.br.frozen 2
    have f3 := HR.out.br.frozen 3
    have f4 := HR.out.br.frozen 4
    have f5 := HR.out.br.frozen 5
    have f6 := HR.out.br.frozen 6
    have f7 := HR.out.br.frozen 7
    have f8 := HR.out.br.frozen 8
    have hlr := HR.out.br.lt
    simp [zeroF] at d0 d1 d2 d3 d4 d5 d6 d7 d8
    obtain ⟨hb5, hf5, -⟩ := HR.out.stored (.int .i64 0) (.int .i64 0) (.slice none 0 0) (.int .i64 0) (.int .i64 0) (.slice none 0 0) (.int .i64 0) (.int .i64 0) (.slice none 0 0)
    unfold store9 at hb5 hf5
    have HB5 := Lib.hid hb5; have HF5 := Lib.hid hf5
    clear hb5 hf5
    go_wp2_with fail
    refine bodyPost_ret (results_row_tmp Try.results26 _ _ r 30 _ (0, 0) _ rfl HB5.out.here Try.underlying30 rfl (by kernel_rfl)) rfl ?_
    exact Hend.out _ HF5.out
  · clear HR
    have c0 := HT2.out.bg.cell 0
    have c1 := HT2.out.bg.cell 1
    have c2 := HT2.out.bg.cell 2
    have hlg := HT2.out.bg.lt
    simp at c0 c1 c2
    go_wp2_with fail
    refine (HH1.out _ HT2.out.fr).mono ?_
    rintro e wa1 ⟨u, rfl, hM⟩
    obtain ⟨a1, rfl, ha1, hn1⟩ := hM.at_
    have Hn1 := Lib.hid (fun k hk => (by have := hn1 k hk; have := HT2.out.br.lt; omega) : ∀ k, (Value.slice a1.A a1.n a1.c).ownBlock = some k → k ≠ r)
    have hb1 := PlBk.new ha1
    have hfa : Fr [] wa1 (wa1.alloc (.cells #[.int .i64 a1.W, .int .i64 a1.H, .slice a1.A a1.n a1.c] 25)) := (Fr.refl _ _).alloc _
    have hfm := hM.fr
    clear c0 c1 c2 hlg hn1 ha1 hM
    go_upto_region 5 with fail
    generalize wa1.alloc (.cells #[.int .i64 a1.W, .int .i64 a1.H, .slice a1.A a1.n a1.c] 25) = w3 at hb1 hfa ⊢
    obtain ⟨g1, hg1⟩ : ∃ g1, g1 = wa1.heap.size := ⟨_, rfl⟩
    rw [← hg1] at hb1 ⊢
    have hff := hfm.trans hfa (by simp)
    have HT3 := Lib.hid (HT2.out.fr0 hff); have HB1 := Lib.hid hb1
    clear hb1 hfa hfm hff hg1 HT2
    have c0 := HT3.out.bg.cell 3
    have c1 := HT3.out.bg.cell 4
    have c2 := HT3.out.bg.cell 5
    have hlg := HT3.out.bg.lt
    simp at c0 c1 c2
    go_wp2_with fail
    refine (HH2.out _ HT3.out.fr).mono ?_
    rintro e wa2 ⟨u, rfl, hM⟩
    obtain ⟨a2, rfl, ha2, hn2⟩ := hM.at_
    have Hn2 := Lib.hid (fun k hk => (by have := hn2 k hk; have := HT3.out.br.lt; omega) : ∀ k, (Value.slice a2.A a2.n a2.c).ownBlock = some k → k ≠ r)
    have hb2 := PlBk.new ha2
    have hfa : Fr [] wa2 (wa2.alloc (.cells #[.int .i64 a2.W, .int .i64 a2.H, .slice a2.A a2.n a2.c] 25)) := (Fr.refl _ _).alloc _
    have hfm := hM.fr
    clear c0 c1 c2 hlg hn2 ha2 hM
    go_upto_region 6 with fail
    generalize wa2.alloc (.cells #[.int .i64 a2.W, .int .i64 a2.H, .slice a2.A a2.n a2.c] 25) = w4 at hb2 hfa ⊢
    obtain ⟨g2, hg2⟩ : ∃ g2, g2 = wa2.heap.size := ⟨_, rfl⟩
    rw [← hg2] at hb2 ⊢
    have hff := hfm.trans hfa (by simp)
    have HT4 := Lib.hid (HT3.out.fr0 hff); have HB2 := Lib.hid hb2
    replace HB1 := Lib.hid (HB1.out.fr0 hff)
    clear hb2 hfa hfm hff hg2 HT3
    have c0 := HT4.out.bg.cell 6
    have c1 := HT4.out.bg.cell 7
    have c2 := HT4.out.bg.cell 8
    have hlg := HT4.out.bg.lt
    simp at c0 c1 c2
    go_wp2_with fail
    refine (HH3.out _ HT4.out.fr).mono ?_
    rintro e wa3 ⟨u, rfl, hM⟩
    obtain ⟨a3, rfl, ha3, hn3⟩ := hM.at_
    have Hn3 := Lib.hid (fun k hk => (by have := hn3 k hk; have := HT4.out.br.lt; omega) : ∀ k, (Value.slice a3.A a3.n a3.c).ownBlock = some k → k ≠ r)
    have hb3 := PlBk.new ha3
    have hfa : Fr [] wa3 (wa3.alloc (.cells #[.int .i64 a3.W, .int .i64 a3.H, .slice a3.A a3.n a3.c] 25)) := (Fr.refl _ _).alloc _
    have hfm := hM.fr
    clear c0 c1 c2 hlg hn3 ha3 hM
    go_upto_region 7 with fail
    generalize wa3.alloc (.cells #[.int .i64 a3.W, .int .i64 a3.H, .slice a3.A a3.n a3.c] 25) = w5 at hb3 hfa ⊢
    obtain ⟨g3, hg3⟩ : ∃ g3, g3 = wa3.heap.size := ⟨_, rfl⟩
    rw [← hg3] at hb3 ⊢
    have hff := hfm.trans hfa (by simp)
    have HT5 := Lib.hid (HT4.out.fr0 hff); have HB3 := Lib.hid hb3
    replace HB1 := Lib.hid (HB1.out.fr0 hff)
    replace HB2 := Lib.hid (HB2.out.fr0 hff)
    clear hb3 hfa hfm hff hg3 HT4
    obtain ⟨W1, H1, A1, n1', c1'⟩ := a1
    obtain ⟨W2, H2, A2, n2', c2'⟩ := a2
    obtain ⟨W3, H3, A3, n3', c3'⟩ := a3
    simp only
    have k0 := HB1.out.bk.cell 0
    have k1 := HB1.out.bk.cell 1
    have k2 := HB1.out.bk.cell 2
    have l0 := HB2.out.bk.cell 0
    have l1 := HB2.out.bk.cell 1
    have l2 := HB2.out.bk.cell 2
    have m0 := HB3.out.bk.cell 0
    have m1 := HB3.out.bk.cell 1
    have m2 := HB3.out.bk.cell 2
    have hl1 := HB1.out.bk.lt
    have hl2 := HB2.out.bk.lt
    have hl3 := HB3.out.bk.lt
    simp at k0 k1 k2 l0 l1 l2 m0 m1 m2
    go_upto_region 8 with fail
    have hbq := Blk.new w5 30 #[.int .i64 W1, .int .i64 H1, .slice A1 n1' c1', .int .i64 W2, .int .i64 H2, .slice A2 n2' c2', .int .i64 W3, .int .i64 H3, .slice A3 n3' c3']
    have hfq : Fr [] w5 (w5.alloc (.cells #[.int .i64 W1, .int .i64 H1, .slice A1 n1' c1', .int .i64 W2, .int .i64 H2, .slice A2 n2' c2', .int .i64 W3, .int .i64 H3, .slice A3 n3' c3'] 30)) := (Fr.refl _ _).alloc _
    generalize w5.alloc (.cells #[.int .i64 W1, .int .i64 H1, .slice A1 n1' c1', .int .i64 W2, .int .i64 H2, .slice A2 n2' c2', .int .i64 W3, .int .i64 H3, .slice A3 n3' c3'] 30) = w6 at hbq hfq ⊢
    obtain ⟨q, hq⟩ : ∃ q, q = w5.heap.size := ⟨_, rfl⟩
    rw [← hq] at hbq ⊢
    have HT6 := Lib.hid (HT5.out.fr0 hfq); have HA1 := Lib.hid (HB1.out.has.fr0 hfq); have HA2 := Lib.hid (HB2.out.has.fr0 hfq); have HA3 := Lib.hid (HB3.out.has.fr0 hfq); have HQ6 := Lib.hid hbq
    have Hqr := Lib.hid (show q ≠ r by have := HT5.out.br.lt; omega)
    clear k0 k1 k2 l0 l1 l2 m0 m1 m2 hl1 hl2 hl3 hbq hfq hq HB1 HB2 HB3 HT5
    have HWq := Lib.hid (HWo.out w6 ⟨W1, H1, A1, n1', c1'⟩ ⟨W2, H2, A2, n2', c2'⟩ ⟨W3, H3, A3, n3', c3'⟩ HA1.out HA2.out HA3.out)
    unfold frV FrAt.cells at HWq
    simp only at HWq
    have c0 := HQ6.out.cell 0
    have c1 := HQ6.out.cell 1
    have c2 := HQ6.out.cell 2
    have c3 := HQ6.out.cell 3
    have c4 := HQ6.out.cell 4
    have c5 := HQ6.out.cell 5
    have c6 := HQ6.out.cell 6
    have c7 := HQ6.out.cell 7
    have c8 := HQ6.out.cell 8
    have hlq := HQ6.out.lt
    simp at c0 c1 c2 c3 c4 c5 c6 c7 c8
    go_wp2_with fail
    refine (HWq.out).mono ?_
    rintro e w7 ⟨rfl, hF7⟩
    have HT7 := Lib.hid (HT6.out.fr0 hF7); have HQ7 := Lib.hid (HQ6.out.fr hF7 (by simp)); have HA17 := Lib.hid (HA1.out.fr0 hF7); have HA27 := Lib.hid (HA2.out.fr0 hF7); have HA37 := Lib.hid (HA3.out.fr0 hF7)
    clear hF7 c0 c1 c2 c3 c4 c5 c6 c7 c8 hlq HT6 HQ6 HA1 HA2 HA3 HWq HWo HH1 HH2 HH3
    have HR : Hid (ResF w w7 r) := Lib.hid ⟨HT7.out.fr, by rw [HT7.out.er, HT7.out.eg]; omega, HT7.out.br⟩
    cases bo : F.halved.whole
    · have Hend := Lib.hid fun w' hf => HN.out (by rw [bo]; simp) w' hf
      clear HN HY bo
      have d0 := HR.out.br.cell 0
      have d1 := HR.out.br.cell 1
      have d2 := HR.out.br.cell 2
      have d3 := HR.out.br.cell 3
      have d4 := HR.out.br.cell 4
      have d5 := HR.out.br.cell 5
      have d6 := HR.out.br.cell 6
      have d7 := HR.out.br.cell 7
      have d8 := HR.out.br.cell 8
      have f0 := HR.out.br.frozen 0
      have f1 := HR.out.br.frozen 1
      have f2 := HR.out.br.frozen 2
      have f3 := HR.out.br.frozen 3
      have f4 := HR.out.br.frozen 4
      have f5 := HR.out.br.frozen 5
      have f6 := HR.out.br.frozen 6
      have f7 := HR.out.br.frozen 7
      have f8 := HR.out.br.frozen 8
      have hlr := HR.out.br.lt
      simp [zeroF] at d0 d1 d2 d3 d4 d5 d6 d7 d8
      obtain ⟨hb5, hf5, -⟩ := HR.out.stored (.int .i64 0) (.int .i64 0) (.slice none 0 0) (.int .i64 0) (.int .i64 0) (.slice none 0 0) (.int .i64 0) (.int .i64 0) (.slice none 0 0)
      unfold store9 at hb5 hf5
      have HB5 := Lib.hid hb5; have HF5 := Lib.hid hf5
      clear hb5 hf5
      go_wp2_with fail
      refine bodyPost_ret (results_row_tmp Try.results26 _ _ r 30 _ (0, 0) _ rfl HB5.out.here Try.underlying30 rfl (by kernel_rfl)) rfl ?_
      exact Hend.out _ HF5.out
    · have hdn := HY.out ⟨bw, bo⟩
      have Hdn := Lib.hid hdn
      clear hdn bo
      have c0 := HQ7.out.cell 0
      have c1 := HQ7.out.cell 1
      have c2 := HQ7.out.cell 2
      have c3 := HQ7.out.cell 3
      have c4 := HQ7.out.cell 4
      have c5 := HQ7.out.cell 5
      have c6 := HQ7.out.cell 6
      have c7 := HQ7.out.cell 7
      have c8 := HQ7.out.cell 8
      have d0 := HR.out.br.cell 0
      have d1 := HR.out.br.cell 1
      have d2 := HR.out.br.cell 2
      have d3 := HR.out.br.cell 3
      have d4 := HR.out.br.cell 4
      have d5 := HR.out.br.cell 5
      have d6 := HR.out.br.cell 6
      have d7 := HR.out.br.cell 7
      have d8 := HR.out.br.cell 8
      have f0 := HR.out.br.frozen 0
      have f1 := HR.out.br.frozen 1
      have f2 := HR.out.br.frozen 2
      have f3 := HR.out.br.frozen 3
      have f4 := HR.out.br.frozen 4
      have f5 := HR.out.br.frozen 5
      have f6 := HR.out.br.frozen 6
      have f7 := HR.out.br.frozen 7
      have f8 := HR.out.br.frozen 8
      have hlr := HR.out.br.lt
      have hlq := HQ7.out.lt
      simp [zeroF] at c0 c1 c2 c3 c4 c5 c6 c7 c8 d0 d1 d2 d3 d4 d5 d6 d7 d8
      obtain ⟨hb5, hf5, hf6⟩ := HR.out.stored (.int .i64 W1) (.int .i64 H1) (.slice A1 n1' c1') (.int .i64 W2) (.int .i64 H2) (.slice A2 n2' c2') (.int .i64 W3) (.int .i64 H3) (.slice A3 n3' c3')
      unfold store9 at hb5 hf5 hf6
      have HB5 := Lib.hid hb5; have HF5 := Lib.hid hf5; have HF6 := Lib.hid hf6
      clear hb5 hf5 hf6
      go_wp2_with fail
      refine bodyPost_ret (results_row_tmp Try.results26 _ _ r 30 _ (0, 0) _ rfl HB5.out.here Try.underlying30 rfl (by kernel_rfl)) rfl ?_
      rw [HL.out, Hdn.out]
      exact ⟨⟨W1, H1, A1, n1', c1'⟩, ⟨W2, H2, A2, n2', c2'⟩, ⟨W3, H3, A3, n3', c3'⟩, rfl, HA17.out.frS HF6.out (fun k hk => by simpa using Hn1.out k hk), HA27.out.frS HF6.out (fun k hk => by simpa using Hn2.out k hk), HA37.out.frS HF6.out (fun k hk => by simpa using Hn3.out k hk), HF5.out⟩
end Go.Proofs.Ytlcjlgdcleenlaa

/-
  Contracts of the document's frames: CopyFrame.
-/
namespace Go.Proofs.Ytlcjlgdcleenlaa
open Go.RowKit

theorem FrAt.copy {a : FrAt} {P : Pl} {w : World} (h : a.has w P) (hn : P.pix.length ≤ 1000000000000) :
    Calls Try.prog 45 #[.agg #[.int .i64 a.W, .int .i64 a.H, .slice a.A a.n a.c]] w fun e w' => ∃ u, e = .returned u ∧ PlMine w w' u P := by
  obtain ⟨e1, e2, e3, e4⟩ := h
  rw [e3] at e4
  have := rcopyP_any a.W a.H a.A a.c P.pix w e4 hn
  rw [show (⟨a.W, a.H, P.pix⟩ : Pl) = P by rw [e1, e2], ← e3] at this
  exact this

set_option maxRecDepth 20000 in
set_option maxHeartbeats 4000000 in
theorem rcopyF_any (y u v : FrAt) (F : Frm) (w : World) (h1 : y.has w F.y) (h2 : u.has w F.u) (h3 : v.has w F.v) (n1 : F.y.pix.length ≤ 1000000000000) (n2 : F.u.pix.length ≤ 1000000000000) (n3 : F.v.pix.length ≤ 1000000000000) :
    Calls Try.prog 32 #[frV y u v] w fun e w' => ∃ a b c, e = .returned (frV a b c) ∧ a.has w' F.y ∧ b.has w' F.u ∧ c.has w' F.v ∧ Fr [] w w' := by
  have HH1 := Lib.hid fun W (hf : Fr [] w W) => FrAt.copy (h1.fr0 hf) n1
  have HH2 := Lib.hid fun W (hf : Fr [] w W) => FrAt.copy (h2.fr0 hf) n2
  have HH3 := Lib.hid fun W (hf : Fr [] w W) => FrAt.copy (h3.fr0 hf) n3
  obtain ⟨yW, yH, yA, yn, yc⟩ := y
  obtain ⟨uW, uH, uA, un, uc⟩ := u
  obtain ⟨vW, vH, vA, vn, vc⟩ := v
  simp only at HH1 HH2 HH3
  have hT := pairT 30 w #[.int .i64 yW, .int .i64 yH, .slice yA yn yc, .int .i64 uW, .int .i64 uH, .slice uA un uc, .int .i64 vW, .int .i64 vH, .slice vA vn vc] zeroF
  unfold zeroF at hT
  have HT := Lib.hid hT
  obtain ⟨L, hL⟩ : ∃ L, L = fun e w' => ∃ a b c, e = Ending.returned (frV a b c) ∧ a.has w' F.y ∧ b.has w' F.u ∧ c.has w' F.v ∧ Fr [] w w' := ⟨_, rfl⟩
  rw [← hL]
  have HL := Lib.hid hL
  clear hT hL h1 h2 h3
  unfold frV FrAt.cells
  simp only
  go_enter Try.func32, Try.ntmps32
  go_upto_region 1 with fail
  generalize World.alloc (World.alloc w _) _ = w1 at HT ⊢
  obtain ⟨g, hg⟩ : ∃ g, g = w.heap.size := ⟨_, rfl⟩
  rw [← hg] at HT ⊢
  obtain ⟨r, hr⟩ : ∃ r, r = g + 1 := ⟨_, rfl⟩
  rw [← hr] at HT ⊢
  clear hg hr
  have HT1 := Lib.hid (HT.out.fr0 (Fr.refl [] w1).drew)
  clear HT
  have c0 := HT1.out.bg.cell 0
  have c1 := HT1.out.bg.cell 1
  have c2 := HT1.out.bg.cell 2
  have c3 := HT1.out.bg.cell 3
  have c4 := HT1.out.bg.cell 4
  have c5 := HT1.out.bg.cell 5
  have c6 := HT1.out.bg.cell 6
  have c7 := HT1.out.bg.cell 7
  have c8 := HT1.out.bg.cell 8
  simp at c0 c1 c2 c3 c4 c5 c6 c7 c8
  refine wp_region_held_drew (S := fun W => W.cell? ⟨g, 0, none⟩ = some (.int .i64 yW) ∧ W.cell? ⟨g, 1, none⟩ = some (.int .i64 yH) ∧ W.cell? ⟨g, 2, none⟩ = some (.slice yA yn yc) ∧ W.cell? ⟨g, 3, none⟩ = some (.int .i64 uW) ∧ W.cell? ⟨g, 4, none⟩ = some (.int .i64 uH) ∧ W.cell? ⟨g, 5, none⟩ = some (.slice uA un uc) ∧ W.cell? ⟨g, 6, none⟩ = some (.int .i64 vW) ∧ W.cell? ⟨g, 7, none⟩ = some (.int .i64 vH) ∧ W.cell? ⟨g, 8, none⟩ = some (.slice vA vn vc)) (by kernel_rfl) ?_ (fun hHeld => ?_)
  · (first | exact ⟨p0, p1, p2, p3, p4, p5, p6, p7, p8⟩ | exact ⟨m0, m1, m2, m3, m4, m5, m6, m7, m8⟩ | exact ⟨l0, l1, l2, l3, l4, l5, l6, l7, l8⟩ | exact ⟨k0, k1, k2, k3, k4, k5, k6, k7, k8⟩ | exact ⟨c0, c1, c2, c3, c4, c5, c6, c7, c8⟩)
  refine wpAnyH_pick 0 (v := ?_) rfl (by kernel_rfl) (by kernel_rfl) (by kernel_rfl) (fun _ _ _ h => h) (by assumption) (by rfl) ?_ ?_
  rotate_left
  · (intro w hSw; (try dsimp only at hSw); go_simp) <;> (with_reducible rfl)
  (try simp only [Act.put, List.setIfInBounds_toArray, List.set_cons_zero, List.set_cons_succ])
  refine wpAnyH_pick 1 (v := ?_) rfl (by kernel_rfl) (by kernel_rfl) (by kernel_rfl) (fun _ _ _ h => h) (by assumption) (by rfl) ?_ ?_
  rotate_left
  · (intro w hSw; (try dsimp only at hSw); go_simp) <;> (with_reducible rfl)
  (try simp only [Act.put, List.setIfInBounds_toArray, List.set_cons_zero, List.set_cons_succ])
  refine wpAnyH_pick 3 (v := ?_) rfl (by kernel_rfl) (by kernel_rfl) (by kernel_rfl) (fun _ _ _ h => h) (by assumption) (by rfl) ?_ ?_
  rotate_left
  · (intro w hSw; (try dsimp only at hSw); go_simp) <;> (with_reducible rfl)
  (try simp only [Act.put, List.setIfInBounds_toArray, List.set_cons_zero, List.set_cons_succ])
  refine wpAnyH_pick 4 (v := ?_) rfl (by kernel_rfl) (by kernel_rfl) (by kernel_rfl) (fun _ _ _ h => h) (by assumption) (by rfl) ?_ ?_
  rotate_left
  · (intro w hSw; (try dsimp only at hSw); go_simp) <;> (with_reducible rfl)
  (try simp only [Act.put, List.setIfInBounds_toArray, List.set_cons_zero, List.set_cons_succ])
  refine wpAnyH_pick 6 (v := ?_) rfl (by kernel_rfl) (by kernel_rfl) (by kernel_rfl) (fun _ _ _ h => h) (by assumption) (by rfl) ?_ ?_
  rotate_left
  · (intro w hSw; (try dsimp only at hSw); go_simp) <;> (with_reducible rfl)
  (try simp only [Act.put, List.setIfInBounds_toArray, List.set_cons_zero, List.set_cons_succ])
  refine wpAnyH_pick 7 (v := ?_) rfl (by kernel_rfl) (by kernel_rfl) (by kernel_rfl) (fun _ _ _ h => h) (by assumption) (by rfl) ?_ ?_
  rotate_left
  · (intro w hSw; (try dsimp only at hSw); go_simp) <;> (with_reducible rfl)
  (try simp only [Act.put, List.setIfInBounds_toArray, List.set_cons_zero, List.set_cons_succ])
  refine wpAnyH_ready (rs := [2]) (by kernel_rfl) (by simp) ?_
  refine AllReadyH_pick rfl (fun K hK => ?_) (AllReadyH.nil)
  go_simp
  refine (HH1.out _ HT1.out.fr).mono ?_
  rintro e w2 ⟨z1, rfl, hM⟩
  obtain ⟨a1, rfl, ha1, hn1⟩ := hM.at_
  have hfm := hM.fr
  have Hn1 := Lib.hid (fun k hk => (by have := hn1 k hk; have := HT1.out.br.lt; omega) : ∀ k, (Value.slice a1.A a1.n a1.c).ownBlock = some k → k ≠ r)
  have HT2 := Lib.hid (HT1.out.fr0 hfm); have HA1 := Lib.hid ha1
  clear hM hfm hn1 ha1
  have k0 := HT2.out.bg.cell 0
  have k1 := HT2.out.bg.cell 1
  have k2 := HT2.out.bg.cell 2
  have k3 := HT2.out.bg.cell 3
  have k4 := HT2.out.bg.cell 4
  have k5 := HT2.out.bg.cell 5
  have k6 := HT2.out.bg.cell 6
  have k7 := HT2.out.bg.cell 7
  have k8 := HT2.out.bg.cell 8
  simp at k0 k1 k2 k3 k4 k5 k6 k7 k8
  go_wp2_with fail
  refine hK.out _ _ ?_ (fun hHeld => ?_)
  · (first | exact ⟨p0, p1, p2, p3, p4, p5, p6, p7, p8⟩ | exact ⟨m0, m1, m2, m3, m4, m5, m6, m7, m8⟩ | exact ⟨l0, l1, l2, l3, l4, l5, l6, l7, l8⟩ | exact ⟨k0, k1, k2, k3, k4, k5, k6, k7, k8⟩ | exact ⟨c0, c1, c2, c3, c4, c5, c6, c7, c8⟩)
  clear hK K
  (try simp only [Act.put, List.setIfInBounds_toArray, List.set_cons_zero, List.set_cons_succ])
  refine wpAnyH_ready (rs := [5]) (by kernel_rfl) (by simp) ?_
  refine AllReadyH_pick rfl (fun K hK => ?_) (AllReadyH.nil)
  go_simp
  refine (HH2.out _ HT2.out.fr).mono ?_
  rintro e w3 ⟨z2, rfl, hM⟩
  obtain ⟨a2, rfl, ha2, hn2⟩ := hM.at_
  have hfm := hM.fr
  have Hn2 := Lib.hid (fun k hk => (by have := hn2 k hk; have := HT2.out.br.lt; omega) : ∀ k, (Value.slice a2.A a2.n a2.c).ownBlock = some k → k ≠ r)
  have HT3 := Lib.hid (HT2.out.fr0 hfm); have HA2 := Lib.hid ha2
  replace HA1 := Lib.hid (HA1.out.fr0 hfm)
  clear hM hfm hn2 ha2
  have l0 := HT3.out.bg.cell 0
  have l1 := HT3.out.bg.cell 1
  have l2 := HT3.out.bg.cell 2
  have l3 := HT3.out.bg.cell 3
  have l4 := HT3.out.bg.cell 4
  have l5 := HT3.out.bg.cell 5
  have l6 := HT3.out.bg.cell 6
  have l7 := HT3.out.bg.cell 7
  have l8 := HT3.out.bg.cell 8
  simp at l0 l1 l2 l3 l4 l5 l6 l7 l8
  go_wp2_with fail
  refine hK.out _ _ ?_ (fun hHeld => ?_)
  · (first | exact ⟨p0, p1, p2, p3, p4, p5, p6, p7, p8⟩ | exact ⟨m0, m1, m2, m3, m4, m5, m6, m7, m8⟩ | exact ⟨l0, l1, l2, l3, l4, l5, l6, l7, l8⟩ | exact ⟨k0, k1, k2, k3, k4, k5, k6, k7, k8⟩ | exact ⟨c0, c1, c2, c3, c4, c5, c6, c7, c8⟩)
  clear hK K
  (try simp only [Act.put, List.setIfInBounds_toArray, List.set_cons_zero, List.set_cons_succ])
  refine wpAnyH_ready (rs := [8]) (by kernel_rfl) (by simp) ?_
  refine AllReadyH_pick rfl (fun K hK => ?_) (AllReadyH.nil)
  go_simp
  refine (HH3.out _ HT3.out.fr).mono ?_
  rintro e w4 ⟨z3, rfl, hM⟩
  obtain ⟨a3, rfl, ha3, hn3⟩ := hM.at_
  have hfm := hM.fr
  have Hn3 := Lib.hid (fun k hk => (by have := hn3 k hk; have := HT3.out.br.lt; omega) : ∀ k, (Value.slice a3.A a3.n a3.c).ownBlock = some k → k ≠ r)
  have HT4 := Lib.hid (HT3.out.fr0 hfm); have HA3 := Lib.hid ha3
  replace HA1 := Lib.hid (HA1.out.fr0 hfm)
  replace HA2 := Lib.hid (HA2.out.fr0 hfm)
  clear hM hfm hn3 ha3
  have m0 := HT4.out.bg.cell 0
  have m1 := HT4.out.bg.cell 1
  have m2 := HT4.out.bg.cell 2
  have m3 := HT4.out.bg.cell 3
  have m4 := HT4.out.bg.cell 4
  have m5 := HT4.out.bg.cell 5
  have m6 := HT4.out.bg.cell 6
  have m7 := HT4.out.bg.cell 7
  have m8 := HT4.out.bg.cell 8
  simp at m0 m1 m2 m3 m4 m5 m6 m7 m8
  go_wp2_with fail
  refine hK.out _ _ ?_ (fun hHeld => ?_)
  · (first | exact ⟨p0, p1, p2, p3, p4, p5, p6, p7, p8⟩ | exact ⟨m0, m1, m2, m3, m4, m5, m6, m7, m8⟩ | exact ⟨l0, l1, l2, l3, l4, l5, l6, l7, l8⟩ | exact ⟨k0, k1, k2, k3, k4, k5, k6, k7, k8⟩ | exact ⟨c0, c1, c2, c3, c4, c5, c6, c7, c8⟩)
  clear hK K
  (try simp only [Act.put, List.setIfInBounds_toArray, List.set_cons_zero, List.set_cons_succ])
  refine wpAnyH_pick 9 (v := ?_) rfl (by kernel_rfl) (by kernel_rfl) (by kernel_rfl) (fun _ _ _ h => h) (by assumption) (by rfl) ?_ ?_
  rotate_left
  · (intro w hSw; (try dsimp only at hSw); go_simp) <;> (with_reducible rfl)
  (try simp only [Act.put, List.setIfInBounds_toArray, List.set_cons_zero, List.set_cons_succ])
  refine wpAnyH_ready (rs := [10]) (by kernel_rfl) (by simp) ?_
  refine AllReadyH_pick rfl (fun K hK => ?_) (AllReadyH.nil)
  obtain ⟨W1, H1, A1, n1', c1'⟩ := a1
  obtain ⟨W2, H2, A2, n2', c2'⟩ := a2
  obtain ⟨W3, H3, A3, n3', c3'⟩ := a3
  simp only
  have d0 := HT4.out.br.cell 0
  have d1 := HT4.out.br.cell 1
  have d2 := HT4.out.br.cell 2
  have d3 := HT4.out.br.cell 3
  have d4 := HT4.out.br.cell 4
  have d5 := HT4.out.br.cell 5
  have d6 := HT4.out.br.cell 6
  have d7 := HT4.out.br.cell 7
  have d8 := HT4.out.br.cell 8
  have f0 := HT4.out.br.frozen 0
  have f1 := HT4.out.br.frozen 1
  have f2 := HT4.out.br.frozen 2
  have f3 := HT4.out.br.frozen 3
  have f4 := HT4.out.br.frozen 4
  have f5 := HT4.out.br.frozen 5
  have f6 := HT4.out.br.frozen 6
  have f7 := HT4.out.br.frozen 7
  have f8 := HT4.out.br.frozen 8
  have hlr := HT4.out.br.lt
  simp at d0 d1 d2 d3 d4 d5 d6 d7 d8
  have HR : Hid (ResF w w4 r) := Lib.hid ⟨HT4.out.fr, by rw [HT4.out.er, HT4.out.eg]; omega, HT4.out.br⟩
  obtain ⟨hb5, hf5, hf6⟩ := HR.out.stored (.int .i64 W1) (.int .i64 H1) (.slice A1 n1' c1') (.int .i64 W2) (.int .i64 H2) (.slice A2 n2' c2') (.int .i64 W3) (.int .i64 H3) (.slice A3 n3' c3')
  unfold store9 at hb5 hf5 hf6
  have HB5 := Lib.hid hb5; have HF5 := Lib.hid hf5; have HF6 := Lib.hid hf6
  clear hb5 hf5 hf6
  have hbg := HT4.out.bg.fr HF6.out (by simp; have := HT4.out.er; omega)
  have p0 : ((((((((((w4.setCell ⟨r, 0, none⟩ (.int .i64 W1)).setCell ⟨r, 1, none⟩ (.int .i64 H1)).setCell ⟨r, 2, none⟩ (.slice A1 n1' c1')).setCell ⟨r, 3, none⟩ (.int .i64 W2)).setCell ⟨r, 4, none⟩ (.int .i64 H2)).setCell ⟨r, 5, none⟩ (.slice A2 n2' c2')).setCell ⟨r, 6, none⟩ (.int .i64 W3)).setCell ⟨r, 7, none⟩ (.int .i64 H3)).setCell ⟨r, 8, none⟩ (.slice A3 n3' c3'))).cell? ⟨g, 0, none⟩ = some (.int .i64 yW) := hbg.cell 0
  have p1 : ((((((((((w4.setCell ⟨r, 0, none⟩ (.int .i64 W1)).setCell ⟨r, 1, none⟩ (.int .i64 H1)).setCell ⟨r, 2, none⟩ (.slice A1 n1' c1')).setCell ⟨r, 3, none⟩ (.int .i64 W2)).setCell ⟨r, 4, none⟩ (.int .i64 H2)).setCell ⟨r, 5, none⟩ (.slice A2 n2' c2')).setCell ⟨r, 6, none⟩ (.int .i64 W3)).setCell ⟨r, 7, none⟩ (.int .i64 H3)).setCell ⟨r, 8, none⟩ (.slice A3 n3' c3'))).cell? ⟨g, 1, none⟩ = some (.int .i64 yH) := hbg.cell 1
  have p2 : ((((((((((w4.setCell ⟨r, 0, none⟩ (.int .i64 W1)).setCell ⟨r, 1, none⟩ (.int .i64 H1)).setCell ⟨r, 2, none⟩ (.slice A1 n1' c1')).setCell ⟨r, 3, none⟩ (.int .i64 W2)).setCell ⟨r, 4, none⟩ (.int .i64 H2)).setCell ⟨r, 5, none⟩ (.slice A2 n2' c2')).setCell ⟨r, 6, none⟩ (.int .i64 W3)).setCell ⟨r, 7, none⟩ (.int .i64 H3)).setCell ⟨r, 8, none⟩ (.slice A3 n3' c3'))).cell? ⟨g, 2, none⟩ = some (.slice yA yn yc) := hbg.cell 2
  have p3 : ((((((((((w4.setCell ⟨r, 0, none⟩ (.int .i64 W1)).setCell ⟨r, 1, none⟩ (.int .i64 H1)).setCell ⟨r, 2, none⟩ (.slice A1 n1' c1')).setCell ⟨r, 3, none⟩ (.int .i64 W2)).setCell ⟨r, 4, none⟩ (.int .i64 H2)).setCell ⟨r, 5, none⟩ (.slice A2 n2' c2')).setCell ⟨r, 6, none⟩ (.int .i64 W3)).setCell ⟨r, 7, none⟩ (.int .i64 H3)).setCell ⟨r, 8, none⟩ (.slice A3 n3' c3'))).cell? ⟨g, 3, none⟩ = some (.int .i64 uW) := hbg.cell 3
  have p4 : ((((((((((w4.setCell ⟨r, 0, none⟩ (.int .i64 W1)).setCell ⟨r, 1, none⟩ (.int .i64 H1)).setCell ⟨r, 2, none⟩ (.slice A1 n1' c1')).setCell ⟨r, 3, none⟩ (.int .i64 W2)).setCell ⟨r, 4, none⟩ (.int .i64 H2)).setCell ⟨r, 5, none⟩ (.slice A2 n2' c2')).setCell ⟨r, 6, none⟩ (.int .i64 W3)).setCell ⟨r, 7, none⟩ (.int .i64 H3)).setCell ⟨r, 8, none⟩ (.slice A3 n3' c3'))).cell? ⟨g, 4, none⟩ = some (.int .i64 uH) := hbg.cell 4
  have p5 : ((((((((((w4.setCell ⟨r, 0, none⟩ (.int .i64 W1)).setCell ⟨r, 1, none⟩ (.int .i64 H1)).setCell ⟨r, 2, none⟩ (.slice A1 n1' c1')).setCell ⟨r, 3, none⟩ (.int .i64 W2)).setCell ⟨r, 4, none⟩ (.int .i64 H2)).setCell ⟨r, 5, none⟩ (.slice A2 n2' c2')).setCell ⟨r, 6, none⟩ (.int .i64 W3)).setCell ⟨r, 7, none⟩ (.int .i64 H3)).setCell ⟨r, 8, none⟩ (.slice A3 n3' c3'))).cell? ⟨g, 5, none⟩ = some (.slice uA un uc) := hbg.cell 5
  have p6 : ((((((((((w4.setCell ⟨r, 0, none⟩ (.int .i64 W1)).setCell ⟨r, 1, none⟩ (.int .i64 H1)).setCell ⟨r, 2, none⟩ (.slice A1 n1' c1')).setCell ⟨r, 3, none⟩ (.int .i64 W2)).setCell ⟨r, 4, none⟩ (.int .i64 H2)).setCell ⟨r, 5, none⟩ (.slice A2 n2' c2')).setCell ⟨r, 6, none⟩ (.int .i64 W3)).setCell ⟨r, 7, none⟩ (.int .i64 H3)).setCell ⟨r, 8, none⟩ (.slice A3 n3' c3'))).cell? ⟨g, 6, none⟩ = some (.int .i64 vW) := hbg.cell 6
  have p7 : ((((((((((w4.setCell ⟨r, 0, none⟩ (.int .i64 W1)).setCell ⟨r, 1, none⟩ (.int .i64 H1)).setCell ⟨r, 2, none⟩ (.slice A1 n1' c1')).setCell ⟨r, 3, none⟩ (.int .i64 W2)).setCell ⟨r, 4, none⟩ (.int .i64 H2)).setCell ⟨r, 5, none⟩ (.slice A2 n2' c2')).setCell ⟨r, 6, none⟩ (.int .i64 W3)).setCell ⟨r, 7, none⟩ (.int .i64 H3)).setCell ⟨r, 8, none⟩ (.slice A3 n3' c3'))).cell? ⟨g, 7, none⟩ = some (.int .i64 vH) := hbg.cell 7
  have p8 : ((((((((((w4.setCell ⟨r, 0, none⟩ (.int .i64 W1)).setCell ⟨r, 1, none⟩ (.int .i64 H1)).setCell ⟨r, 2, none⟩ (.slice A1 n1' c1')).setCell ⟨r, 3, none⟩ (.int .i64 W2)).setCell ⟨r, 4, none⟩ (.int .i64 H2)).setCell ⟨r, 5, none⟩ (.slice A2 n2' c2')).setCell ⟨r, 6, none⟩ (.int .i64 W3)).setCell ⟨r, 7, none⟩ (.int .i64 H3)).setCell ⟨r, 8, none⟩ (.slice A3 n3' c3'))).cell? ⟨g, 8, none⟩ = some (.slice vA vn vc) := hbg.cell 8
  clear hbg
  go_simp
  refine hK.out _ _ ?_ (fun hHeld => ?_)
  · (first | exact ⟨p0, p1, p2, p3, p4, p5, p6, p7, p8⟩ | exact ⟨m0, m1, m2, m3, m4, m5, m6, m7, m8⟩ | exact ⟨l0, l1, l2, l3, l4, l5, l6, l7, l8⟩ | exact ⟨k0, k1, k2, k3, k4, k5, k6, k7, k8⟩ | exact ⟨c0, c1, c2, c3, c4, c5, c6, c7, c8⟩)
  clear hK K
  (try simp only [Act.put, List.setIfInBounds_toArray, List.set_cons_zero, List.set_cons_succ])
  refine wpAnyH_done (by kernel_rfl) ?_ _
  skip
  go_wp2_with fail
  refine bodyPost_ret (results_cell_row Try.results32 _ _ r 30 _ (0, 0) _ rfl HB5.out.here Try.underlying30 rfl (by kernel_rfl)) rfl ?_
  rw [HL.out]
  clear m0 m1 m2 m3 m4 m5 m6 m7 m8 l0 l1 l2 l3 l4 l5 l6 l7 l8 k0 k1 k2 k3 k4 k5 k6 k7 k8 c0 c1 c2 c3 c4 c5 c6 c7 c8 HT1 HT2 HT3 HH1 HH2 HH3 p0 p1 p2 p3 p4 p5 p6 p7 p8 d0 d1 d2 d3 d4 d5 d6 d7 d8
  exact ⟨⟨W1, H1, A1, n1', c1'⟩, ⟨W2, H2, A2, n2', c2'⟩, ⟨W3, H3, A3, n3', c3'⟩, rfl, HA1.out.frS HF6.out (fun k hk => by simpa using Hn1.out k hk), HA2.out.frS HF6.out (fun k hk => by simpa using Hn2.out k hk), HA3.out.frS HF6.out (fun k hk => by simpa using Hn3.out k hk), HF5.out⟩
end Go.Proofs.Ytlcjlgdcleenlaa

/-
  What the laws of layer 6 ask of package plane: contracts of its exported functions, by the plain planes. No condition. And the law's own: Fits, FitsFrame.
-/
namespace Go.Proofs.Ytlcjlgdcleenlaa
open Go.RowKit

def InJ (x : Int) : Prop := -9223372036854775808 ≤ x ∧ x ≤ 9223372036854775807
abbrev FrAt.val (a : FrAt) : Value := .agg #[.int .i64 a.W, .int .i64 a.H, .slice a.A a.n a.c]
theorem FrAt.val_pl {a : FrAt} {w : World} {P : Pl} (h : a.has w P) : a.val = plV P.w P.h a.A P.pix.length a.c := by
  unfold FrAt.val plV
  rw [h.1, h.2.1, h.2.2.1]

/-- A plane answered, with an error's number. -/
def PlPost (w : World) (R : Pl × Int) (e : Ending) (w' : World) : Prop :=
  ∃ a : FrAt, e = .returned (.tuple #[a.val, .int .i64 R.2]) ∧ a.has w' R.1 ∧ Fr [] w w'
/-- Bytes answered. -/
def BsPost (w : World) (l : List UInt8) (e : Ending) (w' : World) : Prop :=
  ∃ A c, e = .returned (.slice A l.length c) ∧ Src w' (.slice A l.length c) (l.map B8) ∧ Fr [] w w'
/-- A plane of a call's own. -/
def FrAt.mine (a : FrAt) (w0 w : World) (P : Pl) : Prop := a.W = P.w ∧ a.H = P.h ∧ a.n = P.pix.length ∧ Mine w0 w (.slice a.A a.n a.c) P.pix
theorem FrAt.mine.has {a : FrAt} {w0 w : World} {P : Pl} (h : a.mine w0 w P) : a.has w P := ⟨h.1, h.2.1, h.2.2.1, h.2.2.2.src⟩
def FrAt.away (a b : FrAt) : Prop := ∀ k, (Value.slice a.A a.n a.c).ownBlock = some k → (Value.slice b.A b.n b.c).ownBlock ≠ some k
/-- A frame copied: new memory, each plane its own. -/
def CopyPost (w : World) (F : Frm) (e : Ending) (w' : World) : Prop :=
  ∃ a b c : FrAt, e = .returned (frV a b c) ∧ a.mine w w' F.y ∧ b.mine w w' F.u ∧ c.mine w w' F.v ∧ a.away b ∧ a.away c ∧ b.away c

/-- A plane that the laws go through. -/
def Pl.small (P : Pl) : Prop := P.pix.length ≤ 20000
structure FrAt3 (y u v : FrAt) (w : World) (F : Frm) : Prop where
  y : y.has w F.y
  u : u.has w F.u
  v : v.has w F.v
def Frm.small (F : Frm) : Prop := F.y.small ∧ F.u.small ∧ F.v.small

/-- The plane's contracts. -/
structure PlaneSpec where
  new : ∀ w (W H : Int) (v : UInt8), InJ W → InJ H → Calls Try.prog 11 #[.int .i64 W, .int .i64 H, B8 v] w (PlPost w (plNew W H v))
  right : ∀ w (a : FrAt) (P : Pl), a.has w P → P.small → Calls Try.prog 29 #[a.val] w fun e w' => e = .returned (.bool P.ok) ∧ Fr [] w w'
  at_ : ∀ w (a : FrAt) (P : Pl) (x y : Int), a.has w P → P.small → InJ x → InJ y → Calls Try.prog 31 #[a.val, .int .i64 x, .int .i64 y] w fun e w' => e = .returned (B8 (P.at_ x y)) ∧ Fr [] w w'
  block : ∀ w (a : FrAt) (P : Pl) (x y n : Int), a.has w P → P.small → InJ x → InJ y → InJ n → Calls Try.prog 30 #[a.val, .int .i64 x, .int .i64 y, .int .i64 n] w (BsPost w (P.block x y n))
  lay : ∀ w (a : FrAt) (P : Pl) (x y n : Int) (A : Option Addr) (c : Nat) (b : List UInt8), a.has w P → P.small → Src w (.slice A b.length c) (b.map B8) → b.length ≤ 20000 → InJ x → InJ y → InJ n →
    Calls Try.prog 18 #[a.val, .int .i64 x, .int .i64 y, .int .i64 n, .slice A b.length c] w (PlPost w (P.lay x y n b))
  half : ∀ w (a : FrAt) (P : Pl), a.has w P → P.small → Calls Try.prog 21 #[a.val] w (PlPost w P.half)
  far : ∀ w (a b : FrAt) (P Q : Pl), a.has w P → b.has w Q → P.small → Q.small → Calls Try.prog 23 #[a.val, b.val] w fun e w' => e = .returned (.tuple #[.int .i64 (P.far Q).1, .int .i64 (P.far Q).2]) ∧ Fr [] w w'
  blank : ∀ w (W H : Int) (v : UInt8), InJ W → InJ H → Calls Try.prog 13 #[.int .i64 W, .int .i64 H, B8 v] w (FrPost w (frBlank W H v))
  whole : ∀ w (y u v : FrAt) (F : Frm), FrAt3 y u v w F → F.small → Calls Try.prog 27 #[frV y u v] w fun e w' => e = .returned (.bool F.whole) ∧ Fr [] w w'
  down : ∀ w (y u v : FrAt) (F : Frm), FrAt3 y u v w F → F.small → Calls Try.prog 25 #[frV y u v] w (FrPost w F.down)
  same : ∀ w (y u v y' u' v' : FrAt) (F G : Frm), FrAt3 y u v w F → FrAt3 y' u' v' w G → F.small → G.small → Calls Try.prog 34 #[frV y u v, frV y' u' v'] w fun e w' => e = .returned (.bool (sameFr F G)) ∧ Fr [] w w'
  copy : ∀ w (y u v : FrAt) (F : Frm), FrAt3 y u v w F → F.small → Calls Try.prog 33 #[frV y u v] w (CopyPost w F)

/-! The document's, in the same words. -/
theorem ref6_new (w : World) (W H : Int) (v : UInt8) : Calls Try.prog 12 #[.int .i64 W, .int .i64 H, B8 v] w (PlPost w (plNew W H v)) :=
  (rnewP_any W H v w).mono fun e w' ⟨u, he, hM⟩ => by
    obtain ⟨a, rfl, ha, -⟩ := hM.at_
    exact ⟨a, he, ha, hM.fr⟩
theorem ref6_lay (w : World) (a : FrAt) (P : Pl) (x y n : Int) (A : Option Addr) (c : Nat) (b : List UInt8) (ha : a.has w P) (hp : P.small) (hs : Src w (.slice A b.length c) (b.map B8)) (hb : b.length ≤ 20000) (hx : InJ x) (hy : InJ y) :
    Calls Try.prog 19 #[a.val, .int .i64 x, .int .i64 y, .int .i64 n, .slice A b.length c] w (PlPost w (P.lay x y n b)) := by
  rw [FrAt.val_pl ha]
  refine (rlay_any P.w P.h a.A a.c P.pix x y n A c b w (by rw [← ha.2.2.1]; exact ha.2.2.2) hs (by unfold Pl.small at hp; omega) (by omega) hx.1 hx.2 hy.1 hy.2).mono fun e w' ⟨u, he, hM⟩ => ?_
  obtain ⟨a, rfl, ha, -⟩ := hM.at_
  exact ⟨a, he, ha, hM.fr⟩
theorem ref6_half (w : World) (a : FrAt) (P : Pl) (ha : a.has w P) (hp : P.small) : Calls Try.prog 22 #[a.val] w (PlPost w P.half) := by
  rw [FrAt.val_pl ha]
  refine (rhalf_any P.w P.h a.A a.c P.pix w (by rw [← ha.2.2.1]; exact ha.2.2.2) (by unfold Pl.small at hp; omega)).mono fun e w' ⟨u, he, hM⟩ => ?_
  obtain ⟨a, rfl, ha, -⟩ := hM.at_
  exact ⟨a, he, ha, hM.fr⟩
theorem ref6_far (w : World) (a b : FrAt) (P Q : Pl) (ha : a.has w P) (hb : b.has w Q) (hp : P.small) (hq : Q.small) :
    Calls Try.prog 24 #[a.val, b.val] w fun e w' => e = .returned (.tuple #[.int .i64 (P.far Q).1, .int .i64 (P.far Q).2]) ∧ Fr [] w w' := by
  rw [FrAt.val_pl ha, FrAt.val_pl hb]
  exact rfar_any P.w P.h a.A a.c P.pix Q.w Q.h b.A b.c Q.pix w (by rw [← ha.2.2.1]; exact ha.2.2.2) (by rw [← hb.2.2.1]; exact hb.2.2.2) (by unfold Pl.small at hp; omega) (by unfold Pl.small at hq; omega)
theorem ref6_same1 (w : World) (a b : FrAt) (P Q : Pl) (ha : a.has w P) (hb : b.has w Q) :
    Calls Try.prog 15 #[a.val, b.val] w fun e w' => e = .returned (.bool (samePl P Q)) ∧ Fr [] w w' := by
  rw [FrAt.val_pl ha, FrAt.val_pl hb]
  exact rsameP_any P.w P.h a.A P.pix.length a.c P.pix Q.w Q.h b.A Q.pix.length b.c Q.pix w (by rw [← ha.2.2.1]; exact ha.2.2.2) (by rw [← hb.2.2.1]; exact hb.2.2.2)
theorem Pl.small.long {P : Pl} (h : P.small) : P.pix.length ≤ 1000000000000 := by unfold Pl.small at h; omega
theorem ref6_whole (w : World) (y u v : FrAt) (F : Frm) (h : FrAt3 y u v w F) (hs : F.small) : Calls Try.prog 28 #[frV y u v] w fun e w' => e = .returned (.bool F.whole) ∧ Fr [] w w' :=
  rwhole_any y u v F w h.y h.u h.v hs.1.long hs.2.1.long hs.2.2.long
theorem ref6_down (w : World) (y u v : FrAt) (F : Frm) (h : FrAt3 y u v w F) (hs : F.small) : Calls Try.prog 26 #[frV y u v] w (FrPost w F.down) :=
  rdown_any y u v F w h.y h.u h.v hs.1.long hs.2.1.long hs.2.2.long
theorem ref6_same (w : World) (y u v y' u' v' : FrAt) (F G : Frm) (h : FrAt3 y u v w F) (k : FrAt3 y' u' v' w G) :
    Calls Try.prog 16 #[frV y u v, frV y' u' v'] w fun e w' => e = .returned (.bool (sameFr F G)) ∧ Fr [] w w' :=
  rsameF_any y u v y' u' v' F G w h.y h.u h.v k.y k.u k.v
theorem ref6_copy (w : World) (y u v : FrAt) (F : Frm) (h : FrAt3 y u v w F) (hs : F.small) : Calls Try.prog 32 #[frV y u v] w fun e w' => ∃ a b c, e = .returned (frV a b c) ∧ FrAt3 a b c w' F ∧ Fr [] w w' :=
  (rcopyF_any y u v F w h.y h.u h.v hs.1.long hs.2.1.long hs.2.2.long).mono fun _ _ ⟨a, b, c, he, h1, h2, h3, hf⟩ => ⟨a, b, c, he, ⟨h1, h2, h3⟩, hf⟩
theorem FrAt3.fr0 {y u v : FrAt} {w w' : World} {F : Frm} (h : FrAt3 y u v w F) (hf : Fr [] w w') : FrAt3 y u v w' F := ⟨h.y.fr0 hf, h.u.fr0 hf, h.v.fr0 hf⟩
theorem FrPost.has {w w' : World} {R : Frm × Int} {e : Ending} (h : FrPost w R e w') : ∃ y u v, e = .returned (.tuple #[frV y u v, .int .i64 R.2]) ∧ FrAt3 y u v w' R.1 ∧ Fr [] w w' := by
  obtain ⟨y, u, v, he, h1, h2, h3, hf⟩ := h
  exact ⟨y, u, v, he, ⟨h1, h2, h3⟩, hf⟩

/-! The law's own. -/
theorem fits_any (W H : Int) (A : Option Addr) (n c : Nat) (w : World) (hn : n ≤ 9223372036854775807) :
    Calls Try.prog 17 #[.agg #[.int .i64 W, .int .i64 H, .slice A n c]] w fun e w' => e = .returned (.bool (decide (n ≤ 10000))) ∧ Fr [] w w' := by
  have hB := Blk.new w 25 #[.int .i64 W, .int .i64 H, .slice A n c]
  have hF : Fr [] w (w.alloc (.cells #[.int .i64 W, .int .i64 H, .slice A n c] 25)) := (Fr.refl _ _).alloc _
  have HB := Lib.hid hB; have HF := Lib.hid hF
  clear hB hF
  go_enter Try.func17, Try.ntmps17
  go_wp2_with fail
  go_ret
  exact ⟨congrArg (fun z => Ending.returned (Value.bool z)) (by simp; omega), HF.out⟩

def Pl.fits (P : Pl) : Bool := decide (P.pix.length ≤ 10000)
theorem Pl.fits.small {P : Pl} (h : P.fits = true) : P.small := by unfold Pl.fits at h; unfold Pl.small; simp at h; omega
def Frm.fits (F : Frm) : Bool := F.y.fits && F.u.fits && F.v.fits
theorem law6_fits (w : World) (a : FrAt) (P : Pl) (ha : a.has w P) (hn : P.pix.length ≤ 9223372036854775807) :
    Calls Try.prog 17 #[a.val] w fun e w' => e = .returned (.bool P.fits) ∧ Fr [] w w' := by
  have := fits_any a.W a.H a.A a.n a.c w (by rw [ha.2.2.1]; exact hn)
  rw [ha.2.2.1] at this
  unfold FrAt.val
  rw [ha.2.2.1]
  exact this

set_option maxRecDepth 20000 in
set_option maxHeartbeats 4000000 in
theorem law6_fitsF (w : World) (y u v : FrAt) (F : Frm) (h : FrAt3 y u v w F) (n1 : F.y.pix.length ≤ 9223372036854775807) (n2 : F.u.pix.length ≤ 9223372036854775807) (n3 : F.v.pix.length ≤ 9223372036854775807) :
    Calls Try.prog 20 #[frV y u v] w fun e w' => e = .returned (.bool F.fits) ∧ Fr [] w w' := by
  have HS1 := Lib.hid fun W (hf : Fr [] w W) => law6_fits W y F.y (h.y.fr0 hf) n1
  have HS2 := Lib.hid fun W (hf : Fr [] w W) => law6_fits W u F.u (h.u.fr0 hf) n2
  have HS3 := Lib.hid fun W (hf : Fr [] w W) => law6_fits W v F.v (h.v.fr0 hf) n3
  have hw : F.fits = (F.y.fits && F.u.fits && F.v.fits) := rfl
  obtain ⟨yW, yH, yA, yn, yc⟩ := y
  obtain ⟨uW, uH, uA, un, uc⟩ := u
  obtain ⟨vW, vH, vA, vn, vc⟩ := v
  simp only [FrAt.val] at HS1 HS2 HS3 hw
  obtain ⟨R, hR⟩ : ∃ R, R = F.fits := ⟨_, rfl⟩
  rw [← hR] at hw ⊢
  have Hw := Lib.hid hw
  have hB := Blk.new w 30 #[.int .i64 yW, .int .i64 yH, .slice yA yn yc, .int .i64 uW, .int .i64 uH, .slice uA un uc, .int .i64 vW, .int .i64 vH, .slice vA vn vc]
  have hF : Fr [] w (w.alloc (.cells #[.int .i64 yW, .int .i64 yH, .slice yA yn yc, .int .i64 uW, .int .i64 uH, .slice uA un uc, .int .i64 vW, .int .i64 vH, .slice vA vn vc] 30)) := (Fr.refl _ _).alloc _
  have HB := Lib.hid hB; have HF := Lib.hid hF
  clear hR hw hB hF h
  unfold frV FrAt.cells
  simp only
  go_enter Try.func20, Try.ntmps20
  go_upto_region 1 with fail
  generalize World.alloc w _ = w1 at HB HF ⊢
  obtain ⟨g, hg⟩ : ∃ g, g = w.heap.size := ⟨_, rfl⟩
  rw [← hg] at HB ⊢
  clear hg
  have c0 := HB.out.cell 0
  have c1 := HB.out.cell 1
  have c2 := HB.out.cell 2
  have hlg := HB.out.lt
  simp at c0 c1 c2
  go_wp2_with fail
  refine (HS1.out _ HF.out).mono ?_
  rintro e w2 ⟨rfl, hF2⟩
  have HB2 := Lib.hid (HB.out.fr hF2 (by simp)); have HF2 := Lib.hid (HF.out.trans hF2 (by simp))
  clear hF2 c0 c1 c2 hlg HB HF
  have c0 := HB2.out.cell 3
  have c1 := HB2.out.cell 4
  have c2 := HB2.out.cell 5
  have hlg := HB2.out.lt
  simp at c0 c1 c2
  go_wp2_with fail
  refine (HS2.out _ HF2.out).mono ?_
  rintro e w3 ⟨rfl, hF3⟩
  have HB3 := Lib.hid (HB2.out.fr hF3 (by simp)); have HF3 := Lib.hid (HF2.out.trans hF3 (by simp))
  clear hF3 c0 c1 c2 hlg HB2 HF2
  have c0 := HB3.out.cell 6
  have c1 := HB3.out.cell 7
  have c2 := HB3.out.cell 8
  have hlg := HB3.out.lt
  simp at c0 c1 c2
  go_wp2_with fail
  refine (HS3.out _ HF3.out).mono ?_
  rintro e w4 ⟨rfl, hF4⟩
  have HF4 := Lib.hid (HF3.out.trans hF4 (by simp))
  clear hF4 c0 c1 c2 hlg HB3 HF3 HS1 HS2 HS3
  cases b1 : F.y.fits <;> cases b2 : F.u.fits <;> cases b3 : F.v.fits <;> rw [b1, b2, b3] at Hw
  all_goals
    go_wp2_with fail
    go_ret
    exact ⟨by rw [Hw.out]; rfl, HF4.out⟩
end Go.Proofs.Ytlcjlgdcleenlaa

/-
  The live question of layer 6, out of the contracts.
-/
namespace Go.Proofs.Ytlcjlgdcleenlaa
open Go.RowKit

def lvP : Pl := ⟨3, 2, [9, 9, 9, 9, 9, 9]⟩
def lvQ : Pl := ⟨3, 2, [9, 9, 9, 9, 1, 2]⟩
def lvF : Frm := (frBlank 16 32 7).1
theorem live6_new : plNew 3 2 9 = (lvP, 0) := by decide +kernel
theorem live6_lay : lvP.lay 1 1 2 [1, 2, 3, 4] = (lvQ, 0) := by decide +kernel
theorem live6_block : lvQ.block 2 1 2 = [2, 2, 2, 2] := by decide +kernel
theorem live6_at : lvQ.at_ 1 1 = 1 := by decide +kernel
theorem live6_blank : frBlank 16 32 7 = (lvF, 0) ∧ lvF.whole = true ∧ lvF.u.h = 16 := by unfold lvF; decide +kernel
theorem live6_small : lvF.small := by unfold Frm.small Pl.small lvF; decide +kernel

set_option maxRecDepth 20000 in
set_option maxHeartbeats 4000000 in
theorem alive6_any (Z : PlaneSpec) (w : World) :
    Calls Try.prog 10 #[] w fun e w' => e = .returned (.bool true) ∧ Fr [] w w' := by
  have j : ∀ x : Int, -1000 ≤ x → x ≤ 1000 → InJ x := fun x h1 h2 => by unfold InJ; omega
  have H1 := Lib.hid (fun W => (by have := Z.new W 3 2 9 (j _ (by omega) (by omega)) (j _ (by omega) (by omega)); rwa [live6_new] at this) : ∀ W, Calls Try.prog 11 #[.int .i64 3, .int .i64 2, .int .u8 9] W (PlPost W (lvP, 0)))
  have H2 := Lib.hid (fun W a (ha : a.has W lvP) A c (hs : Src W (.slice A 4 c) ([1, 2, 3, 4].map B8)) => (by have := Z.lay W a lvP 1 1 2 A c [1, 2, 3, 4] ha (by unfold Pl.small; decide) hs (by decide) (j _ (by omega) (by omega)) (j _ (by omega) (by omega)) (j _ (by omega) (by omega)); rwa [live6_lay] at this) :
    ∀ W (a : FrAt), a.has W lvP → ∀ A c, Src W (.slice A 4 c) ([1, 2, 3, 4].map B8) → Calls Try.prog 18 #[.agg #[.int .i64 a.W, .int .i64 a.H, .slice a.A a.n a.c], .int .i64 1, .int .i64 1, .int .i64 2, .slice A 4 c] W (PlPost W (lvQ, 0)))
  have H3 := Lib.hid (fun W a (ha : a.has W lvQ) => (by have := Z.block W a lvQ 2 1 2 ha (by unfold Pl.small; decide) (j _ (by omega) (by omega)) (j _ (by omega) (by omega)) (j _ (by omega) (by omega)); rwa [live6_block] at this) :
    ∀ W (a : FrAt), a.has W lvQ → Calls Try.prog 30 #[.agg #[.int .i64 a.W, .int .i64 a.H, .slice a.A a.n a.c], .int .i64 2, .int .i64 1, .int .i64 2] W (BsPost W [2, 2, 2, 2]))
  have H4 := Lib.hid (fun W => (by have := Z.blank W 16 32 7 (j _ (by omega) (by omega)) (j _ (by omega) (by omega)); rwa [live6_blank.1] at this) : ∀ W, Calls Try.prog 13 #[.int .i64 16, .int .i64 32, .int .u8 7] W (FrPost W (lvF, 0)))
  have H5 := Lib.hid (fun W a (ha : a.has W lvQ) => (by have := Z.at_ W a lvQ 1 1 ha (by unfold Pl.small; decide) (j _ (by omega) (by omega)) (j _ (by omega) (by omega)); rwa [live6_at] at this) :
    ∀ W (a : FrAt), a.has W lvQ → Calls Try.prog 31 #[.agg #[.int .i64 a.W, .int .i64 a.H, .slice a.A a.n a.c], .int .i64 1, .int .i64 1] W fun e w' => e = .returned (B8 1) ∧ Fr [] W w')
  have H6 := Lib.hid (fun W y u v (h : FrAt3 y u v W lvF) => (by have := Z.whole W y u v lvF h live6_small; rwa [live6_blank.2.1] at this) :
    ∀ W (y u v : FrAt), FrAt3 y u v W lvF → Calls Try.prog 27 #[frV y u v] W fun e w' => e = .returned (.bool true) ∧ Fr [] W w')
  clear j
  go_enter Try.func10, Try.ntmps10
  go_wp2_with fail
  refine (H1.out _).mono ?_
  rintro e w1 ⟨a, rfl, ha, hf⟩
  have HA := Lib.hid ha; have HF := Lib.hid hf
  clear ha hf H1
  obtain ⟨aW, aH, aA, an, ac⟩ := a
  simp only [FrAt.val]
  go_wp2_with fail
  obtain ⟨w2, hw2⟩ : ∃ w2, w2 = (w1.alloc (.cells #[.int .i64 aW, .int .i64 aH, .slice aA an ac] 25)).alloc (.cells #[.int .u8 1, .int .u8 2, .int .u8 3, .int .u8 4] 5) := ⟨_, rfl⟩
  rw [← hw2]
  have hf2 : Fr [] w1 w2 := by rw [hw2]; exact ((Fr.refl _ _).alloc _).alloc _
  have hs2 : Src w2 (.slice (some ⟨w1.heap.size + 1, 0, none⟩) 4 4) ([1, 2, 3, 4].map B8) := by
    have hb := Blk.new (w1.alloc (.cells #[.int .i64 aW, .int .i64 aH, .slice aA an ac] 25)) 5 #[.int .u8 1, .int .u8 2, .int .u8 3, .int .u8 4]
    rw [← hw2, World.size_alloc] at hb
    refine .inr ⟨_, _, rfl, Nat.le_refl _, fun j u hj => ?_⟩
    rw [add_plain]
    simp only [Nat.zero_add]
    rw [hb.cell j, ← hj]
    match j with
    | 0 => rfl
    | 1 => rfl
    | 2 => rfl
    | 3 => rfl
    | j + 4 => simp
  have HS2 := Lib.hid hs2
  have HF2 := Lib.hid (HF.out.trans hf2 (by simp)); have HA2 := Lib.hid (HA.out.fr0 hf2)
  clear hf2 hs2 hw2 HF HA
  refine (H2.out _ _ HA2.out _ _ HS2.out).mono ?_
  rintro e w3 ⟨a, rfl, ha, hf⟩
  have HA := Lib.hid ha; have HF := Lib.hid (HF2.out.trans hf (by simp))
  clear ha hf H2 HA2 HF2 HS2
  obtain ⟨aW, aH, aA, an, ac⟩ := a
  simp only [FrAt.val]
  go_wp2_with fail
  obtain ⟨w4, hw4⟩ : ∃ w4, w4 = w3.alloc (.cells #[.int .i64 aW, .int .i64 aH, .slice aA an ac] 25) := ⟨_, rfl⟩
  rw [← hw4]
  obtain ⟨q, hq⟩ : ∃ q, q = w3.heap.size := ⟨_, rfl⟩
  rw [← hq]
  have hf4 : Fr [] w3 w4 := by rw [hw4]; exact (Fr.refl _ _).alloc _
  have hb4 : Blk w4 q 25 #[.int .i64 aW, .int .i64 aH, .slice aA an ac] := by rw [hw4, hq]; exact Blk.new _ _ _
  have HB := Lib.hid hb4
  have HF4 := Lib.hid (HF.out.trans hf4 (by simp)); have HA4 := Lib.hid (HA.out.fr0 hf4)
  clear hf4 hb4 hw4 hq HF HA
  refine (H3.out _ _ HA4.out).mono ?_
  rintro e w5 ⟨A5, c5, rfl, hs5, hf5⟩
  obtain ⟨n5, hn5⟩ : ∃ n5, n5 = ([2, 2, 2, 2] : List UInt8).length := ⟨_, rfl⟩
  rw [← hn5] at hs5 ⊢
  have hl5 : decide ((n5 : Int) = 4) = true := by rw [hn5]; rfl
  have hm5 : 0 < n5 ∧ 1 < n5 ∧ 2 < n5 := by rw [hn5]; decide
  obtain ⟨n50, n51, n52⟩ := hm5
  have N50 : 0 < (n5 : Int) := by omega
  have N51 : 1 < (n5 : Int) := by omega
  have N52 : 2 < (n5 : Int) := by omega
  have HS5 := Lib.hid hs5
  clear hn5
  have HF5 := Lib.hid (HF4.out.trans hf5 (by simp)); have HA5 := Lib.hid (HA4.out.fr0 hf5); have HB5 := Lib.hid (HB.out.fr hf5 (by simp))
  clear hs5 hf5 H3 HF4 HA4 HB
  go_wp2_with fail
  refine (H4.out _).mono ?_
  rintro e w6 hp
  obtain ⟨y, u, v, rfl, h3, hf6⟩ := hp.has
  have H3' := Lib.hid h3
  have HF6 := Lib.hid (HF5.out.trans hf6 (by simp)); have HA6 := Lib.hid (HA5.out.fr0 hf6); have HB6 := Lib.hid (HB5.out.fr hf6 (by simp)); have HS6 := Lib.hid (HS5.out.fr0 hf6)
  clear hp h3 hf6 H4 HF5 HA5 HB5 HS5
  obtain ⟨yW, yH, yA, yn, yc⟩ := y
  obtain ⟨uW, uH, uA, un, uc⟩ := u
  obtain ⟨vW, vH, vA, vn, vc⟩ := v
  obtain ⟨ad, rfl, s0⟩ := HS6.out.cellAt (x := 2) (k := 0) rfl
  obtain ⟨ad', e', s1⟩ := HS6.out.cellAt (x := 2) (k := 1) rfl
  cases e'
  obtain ⟨ad', e', s2⟩ := HS6.out.cellAt (x := 2) (k := 2) rfl
  cases e'
  have had := plain_of_cell (by simpa [Addr.add] using s0)
  obtain ⟨g5, o5, hgo⟩ : ∃ g5 o5, ad = ⟨g5, o5, none⟩ := ⟨_, _, had⟩
  subst hgo
  rw [add_plain] at s0 s1 s2
  simp only [Nat.add_zero, B8] at s0 s1 s2
  have t0 : w6.cell? ⟨g5, o5, none⟩ = some (.int .u8 2) := s0
  have t1 : w6.cell? ⟨g5, o5 + 1, none⟩ = some (.int .u8 2) := s1
  have t2 : w6.cell? ⟨g5, o5 + 2, none⟩ = some (.int .u8 2) := s2
  have hl5g := World.block_lt_of_cell? w6 _ t0
  simp only at hl5g
  have q0 := HB6.out.cell 0
  have q1 := HB6.out.cell 1
  have q2 := HB6.out.cell 2
  have hlq := HB6.out.lt
  simp at q0 q1 q2
  clear s0 s1 s2 had HS6
  unfold frV FrAt.cells
  go_wp2_with fail
  all_goals first
    | (rename_i h4; exact absurd (of_decide_eq_true hl5) h4)
    | skip
  obtain ⟨w7, hw7⟩ : ∃ w7, w7 = w6.alloc (.cells #[.int .i64 yW, .int .i64 yH, .slice yA yn yc, .int .i64 uW, .int .i64 uH, .slice uA un uc, .int .i64 vW, .int .i64 vH, .slice vA vn vc] 30) := ⟨_, rfl⟩
  rw [← hw7]
  obtain ⟨z, hz⟩ : ∃ z, z = w6.heap.size := ⟨_, rfl⟩
  rw [← hz]
  have hf7 : Fr [] w6 w7 := by rw [hw7]; exact (Fr.refl _ _).alloc _
  have hb7 : Blk w7 z 30 #[.int .i64 yW, .int .i64 yH, .slice yA yn yc, .int .i64 uW, .int .i64 uH, .slice uA un uc, .int .i64 vW, .int .i64 vH, .slice vA vn vc] := by rw [hw7, hz]; exact Blk.new _ _ _
  have HB7 := Lib.hid hb7
  have HF7 := Lib.hid (HF6.out.trans hf7 (by simp)); have HA7 := Lib.hid (HA6.out.fr0 hf7); have HY7 := Lib.hid (H3'.out.fr0 hf7)
  have eH : uH = 16 := (H3'.out.u.2.1).trans live6_blank.2.2
  clear hf7 hb7 hw7 hz HB6 HF6 HA6 H3' t0 t1 t2 q0 q1 q2 hlq hl5g
  subst eH
  refine (H5.out _ _ HA7.out).mono ?_
  rintro e w8 ⟨rfl, hf8⟩
  have HB8 := Lib.hid (HB7.out.fr hf8 (by simp)); have HF8 := Lib.hid (HF7.out.trans hf8 (by simp)); have HY8 := Lib.hid (HY7.out.fr0 hf8)
  clear hf8 HB7 HF7 HA7 HY7 H5
  simp only [B8]
  have z0 := HB8.out.cell 0
  have z1 := HB8.out.cell 1
  have z2 := HB8.out.cell 2
  have z3 := HB8.out.cell 3
  have z4 := HB8.out.cell 4
  have z5 := HB8.out.cell 5
  have z6 := HB8.out.cell 6
  have z7 := HB8.out.cell 7
  have z8 := HB8.out.cell 8
  have hlz := HB8.out.lt
  simp at z0 z1 z2 z3 z4 z5 z6 z7 z8
  go_wp2_with fail
  refine (H6.out _ _ _ _ HY8.out).mono ?_
  rintro e w9 ⟨rfl, hf9⟩
  have HB9 := Lib.hid (HB8.out.fr hf9 (by simp)); have HF9 := Lib.hid (HF8.out.trans hf9 (by simp))
  clear hf9 HB8 HF8 HY8 H6 z0 z1 z2 z3 z4 z5 z6 z7 z8 hlz
  have z4 := HB9.out.cell 4
  have hlz := HB9.out.lt
  simp at z4
  go_wp2_with fail
  go_ret
  exact ⟨rfl, HF9.out⟩
end Go.Proofs.Ytlcjlgdcleenlaa

/-
  What the laws of layer 6 keep of a plane and of a frame in a cell.
-/
namespace Go.Proofs.Ytlcjlgdcleenlaa
open Go.RowKit

theorem Src.cellAt' {α : Type} {w : World} {ad : Addr} {n c k : Nat} {xs : List α} {f : α → Value} (h : Src w (.slice (some ad) n c) (xs.map f)) {x : α} (hk : xs[k]? = some x) : w.cell? (ad.add k) = some (f x) := by
  obtain ⟨a2, e, h2⟩ := h.cellAt hk
  injection e with e
  rw [e]
  exact h2
theorem samePl_refl (P : Pl) : samePl P P = true := by simp [samePl]
theorem sameFr_refl (F : Frm) : sameFr F F = true := by simp [sameFr, samePl_refl]

/-- A frame in a cell. -/
structure FrBk (w : World) (q : Nat) (y u v : FrAt) (F : Frm) : Prop where
  bk : Blk w q 30 (FrAt.cells y u v)
  has : FrAt3 y u v w F
theorem FrBk.fr0 {w w' : World} {q : Nat} {y u v : FrAt} {F : Frm} (h : FrBk w q y u v F) (hf : Fr [] w w') : FrBk w' q y u v F := ⟨h.bk.fr hf (by simp), h.has.fr0 hf⟩

/-- Values in a cell. -/
structure Held (w : World) (q : Nat) (t : TypeId) (cs : Array Value) : Prop where
  bk : Blk w q t cs
theorem Held.fr0 {w w' : World} {q : Nat} {t : TypeId} {cs : Array Value} (h : Held w q t cs) (hf : Fr [] w w') : Held w' q t cs := ⟨h.bk.fr hf (by simp)⟩
theorem Held.put (w0 w : World) (t : TypeId) (cs : Array Value) (hf : Fr [] w0 w) :
    ∃ w1 g, w.alloc (.cells cs t) = w1 ∧ w.heap.size = g ∧ Held w1 g t cs ∧ Fr [] w w1 ∧ Fr [] w0 w1 :=
  ⟨_, _, rfl, rfl, ⟨Blk.new w t cs⟩, (Fr.refl _ _).alloc _, hf.alloc _⟩
/-- Bytes copied. -/
theorem copied_mine {w w3 : World} {vo : Value} {xs : List UInt8} (hO : Own w3 5 vo (xs.map B8)) (hG : Own1 (.slice (some ⟨w.heap.size, 0, none⟩) 0 0) vo (w.alloc (.cells #[] 5)) w3) :
    ∃ A c, vo = .slice A xs.length c ∧ Src w3 (.slice A xs.length c) (xs.map B8) ∧ Fr [] w w3 := by
  have hM := Mine.copied (w0 := w) (w := w) hO hG (Fr.refl _ _)
  obtain ⟨A, c, rfl⟩ := hM.slice
  exact ⟨A, c, rfl, hM.src, ((Fr.refl _ _).alloc _).trans hG.1 (by intro x hx; simp [Value.ownBlock] at hx; subst hx; exact .inr (Nat.le_refl _))⟩
theorem FrAt.has.put {w0 w : World} {a : FrAt} {P : Pl} (h : a.has w P) (hf : Fr [] w0 w) :
    ∃ w1 g, w.alloc (.cells #[.int .i64 a.W, .int .i64 a.H, .slice a.A a.n a.c] 25) = w1 ∧ w.heap.size = g ∧ PlBk w1 g a P ∧ Fr [] w w1 ∧ Fr [] w0 w1 :=
  ⟨_, _, rfl, rfl, PlBk.new h, (Fr.refl _ _).alloc _, hf.alloc _⟩
theorem FrAt3.put {w0 w : World} {y u v : FrAt} {F : Frm} (h : FrAt3 y u v w F) (hf : Fr [] w0 w) :
    ∃ w1 g, w.alloc (.cells #[.int .i64 y.W, .int .i64 y.H, .slice y.A y.n y.c, .int .i64 u.W, .int .i64 u.H, .slice u.A u.n u.c, .int .i64 v.W, .int .i64 v.H, .slice v.A v.n v.c] 30) = w1 ∧ w.heap.size = g ∧ FrBk w1 g y u v F ∧ Fr [] w w1 ∧ Fr [] w0 w1 :=
  ⟨_, _, rfl, rfl, ⟨Blk.new _ _ _, h.fr0 ((Fr.refl _ _).alloc _)⟩, (Fr.refl _ _).alloc _, hf.alloc _⟩
theorem Frm.fits.small {F : Frm} (h : F.fits = true) : F.small := by
  unfold Frm.fits at h
  simp at h
  exact ⟨Pl.fits.small h.1.1, Pl.fits.small h.1.2, Pl.fits.small h.2⟩
end Go.Proofs.Ytlcjlgdcleenlaa

/-
  Closed facts of this program that every row asks; no condition.
-/
namespace Go.Proofs.Ytlcjlgdcleenlaa
theorem own_knob : ownKnob Try.prog.godebug = none := by kernel_rfl
theorem laid_out : laidOutB Try.prog = true := by kernel_rfl
end Go.Proofs.Ytlcjlgdcleenlaa

/-
  Planes, frames and small rows of numbers as arguments: what they read as. No condition.
-/
namespace Go.Proofs.Ytlcjlgdcleenlaa
open Go.RowKit Go.ChangeShapes Go.WideShapes Go.ChangeAt Go.Deep

theorem okWide_structN {P : Program} {w : World} {r : Reach} {base : Nat} {t : TypeId} {fs : Array Field} {v : Value} (ht : P.underlying t = some (.struct fs)) (h : Value.okWide P w r base t v) : ∃ l : List Value, v = .agg ⟨l⟩ := by
  simp only [Value.okWide, ht] at h
  obtain ⟨⟨l⟩, h1, -⟩ := h
  exact ⟨l, h1⟩
theorem okWide_rowN {P : Program} {w : World} {r : Reach} {base : Nat} {t e : TypeId} {n : Nat} {v : Value} (ht : P.underlying t = some (.array n e)) (h : Value.okWide P w r base t v) : ∃ l : List Value, v = .agg ⟨l⟩ := by
  simp only [Value.okWide, ht] at h
  obtain ⟨⟨l⟩, h1, -⟩ := h
  exact ⟨l, h1⟩

section
variable {H : Type} {enc : TypeId × Value → H} {w : World} {base : Nat} {spare : Nat → Bool} {held : Bool}
theorem trod_j {n : Nat} {c : Value} {y : DataW H × List MemPlace} (h : DataW.trod enc Try.prog w base spare held n 3 [c] = some y) : ∃ z, c = .int .i64 z ∧ InJ z := by
  obtain ⟨z, h0, -, v0⟩ := DataW.trod_int Try.underlying3 h
  simp [Lit.wf, IntKind.min, IntKind.max, IntKind.signed, IntKind.bits] at v0
  simp at h0
  exact ⟨z, h0, by unfold InJ; omega⟩

set_option maxRecDepth 20000 in
theorem open_plane {n : Nat} {cs : List Value} {x : DataW H × List MemPlace} (h : DataW.trod enc Try.prog w base spare held n 25 cs = some x) :
    ∃ (a : FrAt) (P : Pl), cs = [.int .i64 a.W, .int .i64 a.H, .slice a.A a.n a.c] ∧ a.has w P ∧ P.pix.length ≤ 9223372036854775807 := by
  obtain ⟨xs, n', -, -, hl, hx, hf⟩ := DataW.trod_struct Try.underlying25 h
  have hx2 : xs.length = 3 := hx
  have hl2 : cs.length = 3 := hl.trans (by kernel_rfl)
  match cs, hl2, xs, hx2 with
  | [c0, c1, c2], _, [y0, y1, y2], _ =>
    have e0 : Try.prog.cellsOf 3 = 1 := by kernel_rfl
    have e2 : Try.prog.cellsOf 23 = 1 := by kernel_rfl
    have g0 : DataW.trod enc Try.prog w base spare held n' 3 (([c0, c1, c2].drop 0).take (Try.prog.cellsOf 3)) = some y0 := hf 0 _ rfl
    have g1 : DataW.trod enc Try.prog w base spare held n' 3 (([c0, c1, c2].drop 1).take (Try.prog.cellsOf 3)) = some y1 := hf 1 _ rfl
    have g2 : DataW.trod enc Try.prog w base spare held n' 23 (([c0, c1, c2].drop 2).take (Try.prog.cellsOf 23)) = some y2 := hf 2 _ rfl
    rw [e0] at g0 g1
    rw [e2] at g2
    obtain ⟨z0, rfl, -⟩ := trod_j g0
    obtain ⟨z1, rfl, -⟩ := trod_j g1
    obtain ⟨A, len, cap, bs, rfl, hbl, hn, hs⟩ := open_bytes (d := y2.1) (ps := y2.2) g2
    simp only [maxLen] at hn
    refine ⟨⟨z0, z1, A, len, cap⟩, ⟨z0, z1, bs⟩, rfl, ⟨rfl, rfl, hbl.symm, hs⟩, ?_⟩
    show bs.length ≤ _
    omega

set_option maxRecDepth 20000 in
theorem open_frame {n : Nat} {cs : List Value} {x : DataW H × List MemPlace} (h : DataW.trod enc Try.prog w base spare held n 30 cs = some x) :
    ∃ (y u v : FrAt) (F : Frm), cs = (FrAt.cells y u v).toList ∧ FrAt3 y u v w F ∧ F.y.pix.length ≤ 9223372036854775807 ∧ F.u.pix.length ≤ 9223372036854775807 ∧ F.v.pix.length ≤ 9223372036854775807 := by
  obtain ⟨xs, n', -, -, hl, hx, hf⟩ := DataW.trod_struct Try.underlying30 h
  have hx2 : xs.length = 3 := hx
  have hl2 : cs.length = 9 := hl.trans (by kernel_rfl)
  match xs, hx2 with
  | [y0, y1, y2], _ =>
    have e0 : Try.prog.cellsOf 25 = 3 := by kernel_rfl
    have g0 : DataW.trod enc Try.prog w base spare held n' 25 ((cs.drop 0).take (Try.prog.cellsOf 25)) = some y0 := hf 0 _ rfl
    have g1 : DataW.trod enc Try.prog w base spare held n' 25 ((cs.drop 3).take (Try.prog.cellsOf 25)) = some y1 := hf 1 _ rfl
    have g2 : DataW.trod enc Try.prog w base spare held n' 25 ((cs.drop 6).take (Try.prog.cellsOf 25)) = some y2 := hf 2 _ rfl
    rw [e0] at g0 g1 g2
    obtain ⟨y, P, h1, hy, n1⟩ := open_plane g0
    obtain ⟨u, Q, h2, hu, n2⟩ := open_plane g1
    obtain ⟨v, R, h3, hv, n3⟩ := open_plane g2
    refine ⟨y, u, v, ⟨P, Q, R⟩, ?_, ⟨hy, hu, hv⟩, n1, n2, n3⟩
    match cs, hl2 with
    | [a, b, c, d, e, f, g, h, i], _ =>
      have k1 : [a, b, c] = [.int .i64 y.W, .int .i64 y.H, .slice y.A y.n y.c] := h1
      have k2 : [d, e, f] = [.int .i64 u.W, .int .i64 u.H, .slice u.A u.n u.c] := h2
      have k3 : [g, h, i] = [.int .i64 v.W, .int .i64 v.H, .slice v.A v.n v.c] := h3
      simp only [List.cons.injEq, and_true] at k1 k2 k3
      obtain ⟨rfl, rfl, rfl⟩ := k1
      obtain ⟨rfl, rfl, rfl⟩ := k2
      obtain ⟨rfl, rfl, rfl⟩ := k3
      rfl

theorem open_arr3 {n : Nat} {cs : List Value} {x : DataW H × List MemPlace} (h : DataW.trod enc Try.prog w base spare held n 36 cs = some x) :
    ∃ z0 z1 z2, cs = [.int .i64 z0, .int .i64 z1, .int .i64 z2] ∧ InJ z0 ∧ InJ z1 ∧ InJ z2 := by
  obtain ⟨xs, m, -, -, hl, hx, hf⟩ := DataW.trod_array Try.underlying36 h
  have hl2 : cs.length = 3 := hl.trans (by kernel_rfl)
  match cs, hl2, xs, hx with
  | [c0, c1, c2], _, [y0, y1, y2], _ =>
    have e0 : Try.prog.cellsOf 3 = 1 := by kernel_rfl
    have g0 := hf 0 (by omega)
    have g1 := hf 1 (by omega)
    have g2 := hf 2 (by omega)
    rw [e0] at g0 g1 g2
    obtain ⟨z0, rfl, j0⟩ := trod_j (c := c0) (y := y0) g0
    obtain ⟨z1, rfl, j1⟩ := trod_j (c := c1) (y := y1) g1
    obtain ⟨z2, rfl, j2⟩ := trod_j (c := c2) (y := y2) g2
    exact ⟨z0, z1, z2, rfl, j0, j1, j2⟩
theorem open_arr2 {n : Nat} {cs : List Value} {x : DataW H × List MemPlace} (h : DataW.trod enc Try.prog w base spare held n 50 cs = some x) :
    ∃ z0 z1, cs = [.int .i64 z0, .int .i64 z1] ∧ InJ z0 ∧ InJ z1 := by
  obtain ⟨xs, m, -, -, hl, hx, hf⟩ := DataW.trod_array Try.underlying50 h
  have hl2 : cs.length = 2 := hl.trans (by kernel_rfl)
  match cs, hl2, xs, hx with
  | [c0, c1], _, [y0, y1], _ =>
    have e0 : Try.prog.cellsOf 3 = 1 := by kernel_rfl
    have g0 := hf 0 (by omega)
    have g1 := hf 1 (by omega)
    rw [e0] at g0 g1
    obtain ⟨z0, rfl, j0⟩ := trod_j (c := c0) (y := y0) g0
    obtain ⟨z1, rfl, j1⟩ := trod_j (c := c1) (y := y1) g1
    exact ⟨z0, z1, rfl, j0, j1⟩
end
end Go.Proofs.Ytlcjlgdcleenlaa

/-
  Parts of a row of bytes of a call's own: their cells, what is stored and copied into them. No program text here.
-/
namespace Go.Proofs.Ytlcjlgdcleenlaa
open Go.RowKit

/-! A list laid over another. -/
theorem splice_get {α : Type} (L cs : List α) (o : Nat) (h : o + cs.length ≤ L.length) (j : Nat) : (splice L o cs)[j]? = if o ≤ j ∧ j < o + cs.length then cs[j - o]? else L[j]? := by
  unfold splice
  by_cases h1 : j < o
  · rw [if_neg (by omega), List.getElem?_append_left (by simp; omega), List.getElem?_take, if_pos h1]
  · rw [List.getElem?_append_right (by simp; omega)]
    have e1 : (L.take o).length = o := by simp; omega
    rw [e1]
    by_cases h2 : j < o + cs.length
    · rw [if_pos ⟨by omega, h2⟩, List.getElem?_append_left (by omega)]
    · rw [if_neg (by omega), List.getElem?_append_right (by omega), List.getElem?_drop]
      congr 1
      omega
theorem splice_nil {α : Type} (L : List α) (o : Nat) : splice L o [] = L := by simp [splice]
theorem splice_snoc {α : Type} (L cs : List α) (o : Nat) (z : α) (h : o + cs.length < L.length) : (splice L o cs).set (o + cs.length) z = splice L o (cs ++ [z]) := by
  apply List.ext_getElem?
  intro j
  rw [List.getElem?_set, splice_get _ _ _ (by omega), splice_get _ _ _ (by simp; omega), length_splice _ _ _ (by omega)]
  by_cases h1 : o + cs.length = j
  · subst h1
    rw [if_pos rfl, if_pos h, if_pos ⟨by omega, by simp⟩]
    simp
  · rw [if_neg h1]
    by_cases h2 : o ≤ j ∧ j < o + cs.length
    · rw [if_pos h2, if_pos ⟨h2.1, by simp; omega⟩, List.getElem?_append_left (by omega)]
    · rw [if_neg h2, if_neg (by simp; omega)]
theorem splice_whole {α : Type} (L cs : List α) (h : cs.length = L.length) : splice L 0 cs = cs := by simp [splice, h]
theorem splice_map {α β : Type} (f : α → β) (L cs : List α) (o : Nat) : (splice L o cs).map f = splice (L.map f) o (cs.map f) := by simp [splice]
/-- Three parts, the middle one first. -/
theorem splice_three {α : Type} (L A B C : List α) (o : Nat) (h : o + A.length + B.length + C.length ≤ L.length) :
    splice (splice (splice L (o + A.length) B) o A) (o + A.length + B.length) C = splice L o (A ++ (B ++ C)) := by
  have l1 : (splice L (o + A.length) B).length = L.length := length_splice _ _ _ (by omega)
  have l2 : (splice (splice L (o + A.length) B) o A).length = L.length := by rw [length_splice _ _ _ (by omega), l1]
  apply List.ext_getElem?
  intro j
  rw [splice_get _ _ _ (by omega), splice_get _ _ _ (by omega), splice_get _ _ _ (by omega), splice_get _ _ _ (by simp; omega)]
  simp only [List.length_append]
  by_cases h1 : o + A.length + B.length ≤ j ∧ j < o + A.length + B.length + C.length
  · rw [if_pos h1, if_pos (by omega), List.getElem?_append_right (by omega), List.getElem?_append_right (by omega)]
    congr 1
    omega
  · rw [if_neg h1]
    by_cases h2 : o ≤ j ∧ j < o + A.length
    · rw [if_pos h2, if_pos (by omega), List.getElem?_append_left (by omega)]
    · rw [if_neg h2]
      by_cases h3 : o + A.length ≤ j ∧ j < o + A.length + B.length
      · rw [if_pos h3, if_pos (by omega), List.getElem?_append_right (by omega), List.getElem?_append_left (by omega)]
        congr 1
        omega
      · rw [if_neg h3, if_neg (by omega)]

/-- A part of block g: n cells from o on. -/
structure Part (ad : Addr) (g o n : Nat) : Prop where
  blk : ad.block = g
  at_ : ∀ j, j < n → ad.add j = ⟨g, o + j, none⟩
theorem Part.whole (g n : Nat) : Part ⟨g, 0, none⟩ g 0 n := ⟨rfl, fun j _ => by rw [add0, Nat.zero_add]⟩
theorem Part.here {ad : Addr} {g o n : Nat} (h : Part ad g o n) (hn : 0 < n) : ad = ⟨g, o, none⟩ := by
  have := h.at_ 0 hn
  simpa [Addr.add] using this
/-- A part of a part: nothing of it, or moved on. -/
theorem Part.cut {ad : Addr} {g o n : Nat} (h : Part ad g o n) (i m : Nat) (hm : i + m ≤ n) : Part (ad.add i) g (o + i) m :=
  ⟨by rw [addr_block]; exact h.blk, fun j hj => by rw [addr_add_add, h.at_ _ (by omega), Nat.add_assoc]⟩
theorem Part.less {ad : Addr} {g o n m : Nat} (h : Part ad g o n) (hm : m ≤ n) : Part ad g o m := ⟨h.blk, fun j hj => h.at_ j (by omega)⟩
theorem Part.none {ad : Addr} {g o n : Nat} (h : Part ad g o n) (o' : Nat) : Part ad g o' 0 := ⟨h.blk, fun j hj => absurd hj (by omega)⟩

/-- A row of bytes of block g. -/
def RowAt (w : World) (g C : Nat) (xs : List UInt8) : Prop := Own w 5 (.slice (some ⟨g, 0, none⟩) xs.length C) (xs.map B8)
section
variable {w w' w0 : World} {g C : Nat} {xs : List UInt8}
theorem RowAt.lt (h : RowAt w g C xs) : g < w.heap.size := Own.lt h g rfl
theorem RowAt.cell (h : RowAt w g C xs) {j : Nat} (hj : j < xs.length) : w.cell? ⟨g, j, none⟩ = some (.int .u8 ((xs.getD j 0).toNat : Int)) ∧ w.frozen? ⟨g, j, none⟩ = false := by
  obtain ⟨h1, h2, -⟩ := Own.at_ h (j := j) (by simpa using hj)
  refine ⟨?_, h2⟩
  rw [h1, List.getElem?_map, List.getElem?_eq_getElem hj, List.getD_eq_getElem?_getD, List.getElem?_eq_getElem hj]; rfl
theorem RowAt.set (h : RowAt w g C xs) (j : Nat) (z : UInt8) : RowAt (w.setCell ⟨g, j, none⟩ (.int .u8 (z.toNat : Int))) g C (xs.set j z) := by
  have := Own.set h j (.int .u8 (z.toNat : Int))
  unfold RowAt
  rw [List.map_set, List.length_set]
  exact this
theorem RowAt.fr {S : List Nat} (h : RowAt w g C xs) (hf : Fr S w w') (hg : g ∉ S) : RowAt w' g C xs := Own.fr h hf (fun k hk => by injection hk with hk; exact hk ▸ hg)
theorem RowAt.src (h : RowAt w g C xs) : Src w (.slice (some ⟨g, 0, none⟩) xs.length C) (xs.map B8) := Own.src h
theorem RowAt.cap (h : RowAt w g C xs) : xs.length ≤ C := by
  rcases Own.form h with ⟨h1, -⟩ | ⟨g', cap, cur, h1, -, h2, -⟩
  · cases h1
  · injection h1 with e1 e2 e3
    simp at h2
    omega
/-- A part's samples, to be read. -/
theorem RowAt.part (h : RowAt w g C xs) {ad : Addr} {o n c : Nat} (hp : Part ad g o n) (hn : o + n ≤ xs.length) (hc : n ≤ c) : Src w (.slice (some ad) n c) (((xs.drop o).take n).map B8) := by
  have hl : (((xs.drop o).take n).map B8).length = n := by simp; omega
  refine .inr ⟨ad, c, by rw [hl], by rw [hl]; exact hc, fun j u hu => ?_⟩
  have hj : j < n := by
    have := (List.getElem?_eq_some_iff.1 hu).1
    omega
  rw [hp.at_ j hj, (h.cell (j := o + j) (by omega)).1, ← hu, List.getElem?_map, List.getElem?_take, if_pos hj, List.getElem?_drop, List.getElem?_eq_getElem (by omega), List.getD_eq_getElem?_getD, List.getElem?_eq_getElem (by omega)]
  rfl
theorem Mine.row {A : Option Addr} {n c : Nat} {bs : List UInt8} (h : Mine w0 w (.slice A n c) bs) (hne : 0 < bs.length) : ∃ g, A = some ⟨g, 0, none⟩ ∧ n = bs.length ∧ w0.heap.size ≤ g ∧ RowAt w g c bs := by
  obtain ⟨g, rfl, hg, -, -, hn, -⟩ := h.cell (j := 0) hne
  subst hn
  exact ⟨g, rfl, rfl, hg, h.own⟩
theorem RowAt.mine (h : RowAt w g C xs) (hf : Fr [] w0 w) (hg : w0.heap.size ≤ g) : Mine w0 w (.slice (some ⟨g, 0, none⟩) xs.length C) xs :=
  ⟨h, hf, fun k hk => by injection hk with hk; exact hk ▸ hg⟩
end

theorem Own.slice_ {w : World} {e : TypeId} {g C n : Nat} {xs : List Value} (h : Own w e (.slice (some ⟨g, 0, none⟩) n C) xs) : ∃ cur, Blk w g e cur ∧ xs.length ≤ C ∧ C ≤ maxLen ∧ cur.size = C ∧ cur.toList.take xs.length = xs := by
  rcases h.form with ⟨h1, -⟩ | ⟨g', cap, cur, h1, hb, h2, h3, h4, h5⟩
  · cases h1
  · injection h1 with e1 e2 e3
    injection e1 with e1
    injection e1 with e1
    subst e1 e2 e3
    exact ⟨cur, hb, h2, h3, h4, h5⟩

/-- copy into a part, as a step. -/
theorem step_copy_part {w : World} {ops : Array Oper} {o : Oper} {a : Act} {K : Act → World → Prop} {Q : Exit → Act → World → Prop} {E : Prop} (d s : Operand)
    (hw : Region.wanted o (yielded ops a.tmps) = true) (ho : o.op = .call { callee := .builtin .copy, args := #[d, s], argTypes := #[23, 23] })
    (g C : Nat) (xs : List UInt8) (ad : Addr) (off n c : Nat) (src : Value) (ys : List UInt8) (hv : a.eval d = .slice (some ad) n c) (hsv : a.eval s = src)
    (hR : RowAt w g C xs) (hp : Part ad g off n) (hn : off + n ≤ xs.length) (hs : Src w src (ys.map B8))
    (h : ∀ w', RowAt w' g C (splice xs off (ys.take n)) → Fr [g] w w' → K (a.put o.dst (.int .i64 ((min ys.length n : Nat) : Int))) w') : if Region.wanted o (yielded ops a.tmps) = true then Oper.wp Try.prog o a w K Q else E := by
  rw [if_pos hw]
  obtain ⟨i, hi, hz, h1, h2⟩ := info_parts info_u8
  have hsz : (Try.prog.info? 5).map (·.size) = some 1 := by rw [hi]; simp [h1]
  obtain ⟨sp, sc, hsv2⟩ : ∃ sp sc, src = .slice sp ys.length sc := by
    rcases hs with ⟨e, h0⟩ | ⟨ad', c', e, -⟩
    · exact ⟨none, 0, by have := congrArg List.length h0; simp at this; rw [this]; exact e⟩
    · exact ⟨some ad', c', by rw [e]; simp⟩
  by_cases h0 : min ys.length n = 0
  · have e1 : ys.take n = [] := List.eq_nil_of_length_eq_zero (by rw [List.length_take, Nat.min_comm]; exact h0)
    have hrun := run_copy_none (P := Try.prog) w 23 23 o.type 5 (some ad) sp n c ys.length sc Try.underlying23 hsz h0
    unfold Oper.wp
    simp [execOp, ho, resolve, invoke, builtin, hv, hsv, hsv2, hrun, Result.andThen]
    have := h w (by rw [e1, splice_nil]; exact hR) (Fr.refl _ _)
    rw [h0] at this
    exact this
  · have hpos : 0 < n := by omega
    obtain rfl := hp.here hpos
    rcases hs with ⟨e, h0'⟩ | ⟨ad', c', e, -, hcell⟩
    · have := congrArg List.length h0'
      rw [List.length_map, List.length_nil] at this
      omega
    rw [hsv2] at e
    injection e with e1 e2 e3
    subst e1
    obtain ⟨cur, hb, hc1, hc2, hc3, hc4⟩ := Own.slice_ hR
    simp only [List.length_map] at hc1 hc4
    have hl : ((ys.take n).map B8).length = min ys.length n := by simp [Nat.min_comm]
    have hrun := run_copy_row (P := Try.prog) w 23 23 o.type 5 g off n c ad' ys.length sc cur 5 ((ys.take n).map B8) Try.underlying23 hsz hb.here hl
      (fun j u hu => hcell j u (by
        rw [List.getElem?_map, List.getElem?_take] at hu
        split at hu
        · rw [List.getElem?_map]; exact hu
        · cases hu)) (by rw [hl]; omega)
      (fun u hu => by obtain ⟨b, _, rfl⟩ := List.mem_map.1 hu; rfl)
    unfold Oper.wp
    simp only [execOp, ho, resolve, invoke, builtin, Sem.run_bind, Sem.run_pure, Result.andThen_ok, List.map_toArray, List.map_cons, List.map_nil, hv, hsv, hsv2, hrun]
    skip
    have hO := own_of_setRow (n := xs.length) hb hc1 hc2 (cur.toList.take off ++ ((ys.take n).map B8 ++ cur.toList.drop (off + ((ys.take n).map B8).length))) (by
      have e1 : ((ys.take n).map B8).length = min ys.length n := hl
      rw [List.length_append, List.length_append, e1, List.length_take, List.length_drop, Array.length_toList]
      omega)
    have e1 : (cur.toList.take off ++ ((ys.take n).map B8 ++ cur.toList.drop (off + ((ys.take n).map B8).length))).take xs.length = (splice xs off (ys.take n)).map B8 := by
      have hls : (splice xs off (ys.take n)).length = xs.length := length_splice _ _ _ (by simp; omega)
      rw [splice_map]
      show (splice cur.toList off ((ys.take n).map B8)).take xs.length = _
      have hm : off + ((ys.take n).map B8).length ≤ cur.toList.length := by rw [hl]; have := Array.length_toList (xs := cur); omega
      have hm2 : off + ((ys.take n).map B8).length ≤ (xs.map B8).length := by rw [hl, List.length_map]; omega
      apply List.ext_getElem?
      intro j
      rw [List.getElem?_take, splice_get _ _ _ hm, splice_get _ _ _ hm2, hl]
      by_cases hj : j < xs.length
      · rw [if_pos hj]
        split
        · rfl
        · rw [← hc4, List.getElem?_take, if_pos hj]
      · rw [if_neg hj, if_neg (by omega), List.getElem?_eq_none (by simpa using hj)]
    rw [e1] at hO
    have hls : (splice xs off (ys.take n)).length = xs.length := length_splice _ _ _ (by simp; omega)
    have hk := h (w.setRow g (cur.toList.take off ++ ((ys.take n).map B8 ++ cur.toList.drop (off + ((ys.take n).map B8).length))).toArray) (by unfold RowAt; rw [hls]; exact hO) ((Fr.refl [g] w).grown (row := some g) ⟨rfl, rfl, rfl, by simp, fun k _ hk => setRow_other w g k _ (fun e => hk (by simp [e]))⟩ (fun k hk => .inl (by simpa using hk.symm)))
    have e3 : (((ys.take n).map B8).length : Int) = ((min ys.length n : Nat) : Int) := by rw [hl]
    rw [← e3] at hk
    rw [List.append_assoc]
    exact hk

theorem wpList_copy_part {w : World} {ops : Array Oper} {rest : List Oper} {o : Oper} {a : Act} {Q : Exit → Act → World → Prop} (d s : Operand)
    (hw : Region.wanted o (yielded ops a.tmps) = true) (ho : o.op = .call { callee := .builtin .copy, args := #[d, s], argTypes := #[23, 23] })
    (g C : Nat) (xs : List UInt8) (ad : Addr) (off n c : Nat) (src : Value) (ys : List UInt8) (hv : a.eval d = .slice (some ad) n c) (hsv : a.eval s = src)
    (hR : RowAt w g C xs) (hp : Part ad g off n) (hn : off + n ≤ xs.length) (hs : Src w src (ys.map B8))
    (h : ∀ w', RowAt w' g C (splice xs off (ys.take n)) → Fr [g] w w' → wpList Try.prog ops Q rest (a.put o.dst (.int .i64 ((min ys.length n : Nat) : Int))) w') : wpList Try.prog ops Q (o :: rest) a w :=
  wpList_step fun _ hK => step_copy_part d s hw ho g C xs ad off n c src ys hv hsv hR hp hn hs fun w' h1 h2 => hK _ _ (h w' h1 h2)
end Go.Proofs.Ytlcjlgdcleenlaa

/-
  Contracts of the landed planes: isSide, isBlock, nearest, near, areFrameSides, Right, row. No condition but that the row is there.
-/
namespace Go.Proofs.Ytlcjlgdcleenlaa
open Go.RowKit

/-- The value from a to b that is nearest to v. -/
def nst (v a b : Int) : Int := min (max v a) b
theorem nst_range (v : Int) {a b : Int} (h : a ≤ b) : a ≤ nst v a b ∧ nst v a b ≤ b := by unfold nst; omega
theorem nst_near (x : Int) {n : Int} (h : 1 ≤ n) : nst x 0 (n - 1) = nearI x n := by
  unfold nst nearI
  split
  · omega
  · split <;> omega
/-- A place brought near stays what it is to every plane's side. -/
theorem near_nst (x i : Int) {n : Int} (hn : 1 ≤ n) (hn2 : n ≤ 4096) (hi : 0 ≤ i) (hi2 : i < 64) : nearI (nst x (-64) 4096 + i) n = nearI (x + i) n := by
  unfold nst nearI
  split
  · rw [if_pos (by omega)]
  · split
    · rw [if_neg (by omega), if_pos (by omega)]
    · rw [if_neg (by omega), if_neg (by omega)]
      omega

theorem isSide_any (n : Int) (w : World) :
    Calls Try.prog 35 #[.int .i64 n] w fun e w' => e = .returned (.bool (sideOk n)) ∧ w' = w := by
  by_cases h1 : 1 ≤ n
  · have e1 : decide (1 ≤ n) = true := by simpa using h1
    by_cases h2 : n ≤ 4096
    · have e2 : decide (n ≤ 4096) = true := by simpa using h2
      have e3 : sideOk n = true := sideOk_iff.2 ⟨h1, h2⟩
      go_enter Try.func35, Try.ntmps35
      go_wp2_with fail
      go_ret
      exact ⟨by rw [e3]; rfl, rfl⟩
    · have e2 : decide (n ≤ 4096) = false := by simpa using h2
      have e3 : sideOk n = false := by unfold sideOk; rw [e2]; simp
      go_enter Try.func35, Try.ntmps35
      go_wp2_with fail
      go_ret
      exact ⟨rfl, rfl⟩
  · have e1 : decide (1 ≤ n) = false := by simpa using h1
    have e3 : sideOk n = false := by unfold sideOk; rw [e1]; simp
    go_enter Try.func35, Try.ntmps35
    go_wp2_with fail
    go_ret
    exact ⟨rfl, rfl⟩

theorem isBlock_any (n : Int) (w : World) :
    Calls Try.prog 39 #[.int .i64 n] w fun e w' => e = .returned (.bool (spanOk n)) ∧ w' = w := by
  by_cases h1 : 1 ≤ n
  · have e1 : decide (1 ≤ n) = true := by simpa using h1
    by_cases h2 : n ≤ 64
    · have e2 : decide (n ≤ 64) = true := by simpa using h2
      have e3 : spanOk n = true := spanOk_iff.2 ⟨h1, h2⟩
      go_enter Try.func39, Try.ntmps39
      go_wp2_with fail
      go_ret
      exact ⟨by rw [e3]; rfl, rfl⟩
    · have e2 : decide (n ≤ 64) = false := by simpa using h2
      have e3 : spanOk n = false := by unfold spanOk; rw [e2]; simp
      go_enter Try.func39, Try.ntmps39
      go_wp2_with fail
      go_ret
      exact ⟨rfl, rfl⟩
  · have e1 : decide (1 ≤ n) = false := by simpa using h1
    have e3 : spanOk n = false := by unfold spanOk; rw [e1]; simp
    go_enter Try.func39, Try.ntmps39
    go_wp2_with fail
    go_ret
    exact ⟨rfl, rfl⟩

theorem nearest_any (v a b : Int) (w : World) :
    Calls Try.prog 51 #[.int .i64 v, .int .i64 a, .int .i64 b] w fun e w' => e = .returned (.int .i64 (nst v a b)) ∧ w' = w := by
  obtain ⟨z, hz⟩ : ∃ z, z = nst v a b := ⟨_, rfl⟩
  rw [← hz]
  have HZ := Lib.hid hz
  clear hz
  go_enter Try.func51, Try.ntmps51
  go_wp2_with fail
  all_goals
    go_ret
    refine ⟨congrArg (fun z => Ending.returned (Value.int .i64 z)) (?_ : _ = z), rfl⟩
    have := HZ.out
    unfold nst at this
    omega

theorem near_any (x : Int) (w : World) :
    Calls Try.prog 40 #[.int .i64 x] w fun e w' => e = .returned (.int .i64 (nst x (-64) 4096)) ∧ w' = w := by
  have HN := Lib.hid (nearest_any x (-64) 4096)
  go_enter Try.func40, Try.ntmps40
  go_wp2_with fail
  refine (HN.out _).mono ?_
  rintro e w1 ⟨rfl, rfl⟩
  go_wp2_with fail
  go_ret
  exact ⟨rfl, rfl⟩

theorem right_any (W H : Int) (A : Option Addr) (c : Nat) (pix : List UInt8) (w : World) (_hn : pix.length ≤ 1000000000000) :
    Calls Try.prog 29 #[plV W H A pix.length c] w fun e w' => e = .returned (.bool (Pl.ok ⟨W, H, pix⟩)) ∧ Fr [] w w' := by
  obtain ⟨n, hnn⟩ : ∃ n, n = pix.length := ⟨_, rfl⟩
  have HW := Lib.hid fun w => isSide_any W w
  have HH := Lib.hid fun w => isSide_any H w
  obtain ⟨R, hR⟩ : ∃ R, R = Pl.ok ⟨W, H, pix⟩ := ⟨_, rfl⟩
  rw [← hR, ← hnn]
  rw [← hnn] at _hn
  have hR2 : R = (sideOk W && sideOk H && decide ((n : Int) = W * H)) := by rw [hR, hnn]; rfl
  have HR := Lib.hid hR2
  have hF : Fr [] w (w.alloc (.cells #[.int .i64 W, .int .i64 H, .slice A n c] 25)) := (Fr.refl _ _).alloc _
  have HF := Lib.hid hF
  clear hR hR2 hnn hF
  unfold plV
  cases h1 : sideOk W
  · rw [h1] at HW HR
    go_enter Try.func29, Try.ntmps29
    go_wp2_with fail
    refine (HW.out _).mono ?_
    rintro e w1 ⟨rfl, rfl⟩
    go_wp2_with fail
    go_ret
    refine ⟨?_, HF.out⟩
    rw [HR.out]
    rfl
  · cases h2 : sideOk H
    · rw [h1] at HW HR
      rw [h2] at HH HR
      go_enter Try.func29, Try.ntmps29
      go_wp2_with fail
      refine (HW.out _).mono ?_
      rintro e w1 ⟨rfl, rfl⟩
      go_wp2_with fail
      refine (HH.out _).mono ?_
      rintro e w1 ⟨rfl, rfl⟩
      go_wp2_with fail
      go_ret
      refine ⟨?_, HF.out⟩
      rw [HR.out]
      rfl
    · obtain ⟨a1, a2⟩ := sideOk_iff.1 h1
      obtain ⟨b1, b2⟩ := sideOk_iff.1 h2
      obtain ⟨W', rfl⟩ : ∃ W' : Nat, W = (W' : Int) := ⟨W.toNat, by omega⟩
      obtain ⟨H', rfl⟩ : ∃ H' : Nat, H = (H' : Int) := ⟨H.toNat, by omega⟩
      rw [h1] at HW HR
      rw [h2] at HH HR
      obtain ⟨M, hM⟩ : ∃ M, M = W' * H' := ⟨_, rfl⟩
      have hMl : M ≤ 16777216 := by rw [hM]; exact Nat.mul_le_mul (show W' ≤ 4096 by omega) (show H' ≤ 4096 by omega)
      have eM : (W' : Int) * (H' : Int) = (M : Int) := by rw [hM]; simp
      have HM := Lib.hid hM
      clear h1 h2 a1 a2 b1 b2 hM
      go_enter Try.func29, Try.ntmps29
      go_wp2_with fail
      refine (HW.out _).mono ?_
      rintro e w1 ⟨rfl, rfl⟩
      go_wp2_with fail
      refine (HH.out _).mono ?_
      rintro e w1 ⟨rfl, rfl⟩
      go_wp2_with fail
      go_ret
      refine ⟨?_, HF.out⟩
      show Ending.returned (.bool ((n : Int) == (M : Int))) = _
      rw [HR.out, eM]
      by_cases hnm : (n : Int) = (M : Int) <;> simp [hnm]

theorem areSides_any (W H : Int) (w : World) :
    Calls Try.prog 38 #[.int .i64 W, .int .i64 H] w fun e w' => e = .returned (.bool (sideOk W && sideOk H && decide (W % 16 = 0) && decide (H % 16 = 0))) ∧ w' = w := by
  obtain ⟨R, hR⟩ : ∃ R, R = (sideOk W && sideOk H && decide (W % 16 = 0) && decide (H % 16 = 0)) := ⟨_, rfl⟩
  rw [← hR]
  have HW := Lib.hid fun w => isSide_any W w
  have HH := Lib.hid fun w => isSide_any H w
  have HR := Lib.hid hR
  clear hR
  cases h1 : sideOk W
  · rw [h1] at HW HR
    go_enter Try.func38, Try.ntmps38
    go_wp2_with fail
    refine (HW.out _).mono ?_
    rintro e w1 ⟨rfl, rfl⟩
    go_wp2_with fail
    go_ret
    exact ⟨by rw [HR.out]; rfl, rfl⟩
  · cases h2 : sideOk H
    · rw [h1] at HW HR
      rw [h2] at HH HR
      go_enter Try.func38, Try.ntmps38
      go_wp2_with fail
      refine (HW.out _).mono ?_
      rintro e w1 ⟨rfl, rfl⟩
      go_wp2_with fail
      refine (HH.out _).mono ?_
      rintro e w1 ⟨rfl, rfl⟩
      go_wp2_with fail
      go_ret
      exact ⟨by rw [HR.out]; rfl, rfl⟩
    · obtain ⟨a1, a2⟩ := sideOk_iff.1 h1
      obtain ⟨b1, b2⟩ := sideOk_iff.1 h2
      obtain ⟨W', rfl⟩ : ∃ W' : Nat, W = (W' : Int) := ⟨W.toNat, by omega⟩
      obtain ⟨H', rfl⟩ : ∃ H' : Nat, H = (H' : Int) := ⟨H.toNat, by omega⟩
      rw [h1] at HW HR
      rw [h2] at HH HR
      clear h1 h2
      by_cases t1 : W' % 16 = 0
      · by_cases t2 : H' % 16 = 0
        · have e1 : ((W' : Int) % 16 == 0) = true := by simp; omega
          have e2 : ((H' : Int) % 16 == 0) = true := by simp; omega
          have hr : R = true := by rw [HR.out]; simp; omega
          have Hr := Lib.hid hr
          clear hr t1 t2
          go_enter Try.func38, Try.ntmps38
          go_wp2_with fail
          refine (HW.out _).mono ?_
          rintro e w1 ⟨rfl, rfl⟩
          go_wp2_with fail
          refine (HH.out _).mono ?_
          rintro e w1 ⟨rfl, rfl⟩
          go_wp2_with fail
          go_ret
          exact ⟨by rw [Hr.out]; rfl, rfl⟩
        · have e1 : ((W' : Int) % 16 == 0) = true := by simp; omega
          have e2 : ((H' : Int) % 16 == 0) = false := by simp; omega
          have hr : R = false := by rw [HR.out]; simp; omega
          have Hr := Lib.hid hr
          clear hr t1 t2
          go_enter Try.func38, Try.ntmps38
          go_wp2_with fail
          refine (HW.out _).mono ?_
          rintro e w1 ⟨rfl, rfl⟩
          go_wp2_with fail
          refine (HH.out _).mono ?_
          rintro e w1 ⟨rfl, rfl⟩
          go_wp2_with fail
          go_ret
          exact ⟨by rw [Hr.out]; rfl, rfl⟩
      · have e1 : ((W' : Int) % 16 == 0) = false := by simp; omega
        have hr : R = false := by rw [HR.out]; simp; omega
        have Hr := Lib.hid hr
        clear hr t1
        go_enter Try.func38, Try.ntmps38
        go_wp2_with fail
        refine (HW.out _).mono ?_
        rintro e w1 ⟨rfl, rfl⟩
        go_wp2_with fail
        refine (HH.out _).mono ?_
        rintro e w1 ⟨rfl, rfl⟩
        go_wp2_with fail
        go_ret
        exact ⟨by rw [Hr.out]; rfl, rfl⟩

/-- A plane's row. -/
theorem row_any (W H y : Nat) (ad : Addr) (n c : Nat) (w : World) (hW : 1 ≤ W) (hW2 : W ≤ 4096) (hH : H ≤ 4096) (hy : y < H) (hn : n = W * H) (hc : n ≤ c) :
    Calls Try.prog 43 #[plV (W : Int) (H : Int) (some ad) n c, .int .i64 (y : Int)] w fun e w' => e = .returned (.slice (some (ad.add (y * W))) W (c - y * W)) ∧ Fr [] w w' := by
  obtain ⟨M, hM⟩ : ∃ M, M = y * W := ⟨_, rfl⟩
  obtain ⟨M2, hM2⟩ : ∃ M2, M2 = (y + 1) * W := ⟨_, rfl⟩
  have h12 : M2 = M + W := by rw [hM2, hM, Nat.add_mul, Nat.one_mul]
  have hMc : M2 ≤ n := by rw [hM2, hn, Nat.mul_comm W H]; exact Nat.mul_le_mul_right _ hy
  have hnl : n ≤ 16777216 := by rw [hn]; exact Nat.mul_le_mul hW2 hH
  rw [← hM]
  have eM : (y : Int) * (W : Int) = (M : Int) := by rw [hM]; simp
  have eM2 : ((y : Int) + 1) * (W : Int) = (M2 : Int) := by rw [hM2]; simp
  have hF : Fr [] w (w.alloc (.cells #[.int .i64 (W : Int), .int .i64 (H : Int), .slice (some ad) n c] 25)) := (Fr.refl _ _).alloc _
  have HF := Lib.hid hF
  have H12 := Lib.hid h12
  have k1 : M2 ≤ c := by omega
  have k2 : M ≤ M2 := by omega
  have k3 : M2 ≤ 16777216 := by omega
  have k4 : y ≤ 4096 := by omega
  have k5 : M < c := by omega
  clear hF hM hM2 h12 hMc hn
  unfold plV
  go_enter Try.func43, Try.ntmps43
  go_wp2_with fail
  go_ret
  refine ⟨?_, HF.out⟩
  show Ending.returned (.slice (some (ad.add M)) (M2 - M) (c - M)) = _
  rw [H12.out, Nat.add_sub_cancel_left]
end Go.Proofs.Ytlcjlgdcleenlaa

/-
  Cuts of a slice of bytes, as one value each (the walk parts at the cut's end); and other rows. No program text here.
-/
namespace Go.Proofs.Ytlcjlgdcleenlaa
open Go.RowKit

/-- Where a cut from k on begins. -/
def cutAd (ad : Addr) (c k : Nat) : Addr := if c = k then ad else ad.add k
theorem cutAd_block (ad : Addr) (c k : Nat) : (cutAd ad c k).block = ad.block := by
  unfold cutAd
  split
  · rfl
  · exact addr_block _ _
theorem Part.cutAd {ad : Addr} {g o n c k m : Nat} (h : Part ad g o n) (hk : k + m ≤ n) (hn : n ≤ c) : Part (cutAd ad c k) g (o + k) m := by
  unfold Go.Proofs.Ytlcjlgdcleenlaa.cutAd
  split
  · rw [show m = 0 by omega]; exact h.none _
  · exact h.cut k m hk
theorem Src.cutAd {w : World} {ad : Addr} {n c k : Nat} {xs : List Value} (h : Src w (.slice (some ad) n c) xs) (hk : k ≤ n) : Src w (.slice (some (cutAd ad c k)) (n - k) (c - k)) (xs.drop k) := by
  have := h.drop hk
  unfold Go.Proofs.Ytlcjlgdcleenlaa.cutAd
  split
  · rename_i e; rw [if_pos e] at this; exact this
  · rename_i e; rw [if_neg e] at this; exact this
theorem Src.upto {w : World} {ad : Addr} {n c m : Nat} {xs : List Value} (h : Src w (.slice (some ad) n c) xs) (hm : m ≤ n) : Src w (.slice (some ad) m c) (xs.take m) := by
  rcases h with ⟨e, -⟩ | ⟨ad', c', e, hle, hc⟩
  · cases e
  · injection e with e1 e2 e3
    injection e1 with e1
    subst e1 e2 e3
    refine .inr ⟨ad, c, by rw [List.length_take, Nat.min_eq_left hm], by rw [List.length_take]; omega, fun j u hu => hc j u ?_⟩
    rw [List.getElem?_take] at hu
    split at hu
    · exact hu
    · cases hu

theorem run_cutFrom (w : World) (ad : Addr) (n c k : Nat) (hk : k ≤ n) : (Instr.sliceAt 23 (.slice (some ad) n c) (some (.int .i64 (k : Int))) none none).run Try.prog w = .ok (.slice (some (cutAd ad c k)) (n - k) (c - k)) w := by
  have k1 : (k : Int) ≤ (n : Int) := by omega
  go_simp
  unfold cutAd
  split <;> rfl
theorem run_cutTo (w : World) (ad : Addr) (n c m : Nat) (hm : m ≤ c) : (Instr.sliceAt 23 (.slice (some ad) n c) none (some (.int .i64 (m : Int))) none).run Try.prog w = .ok (.slice (some ad) m c) w := by
  have k1 : (m : Int) ≤ (c : Int) := by omega
  go_simp
theorem run_cutBoth (w : World) (ad : Addr) (n c k m : Nat) (hk : k ≤ m) (hm : m ≤ c) : (Instr.sliceAt 23 (.slice (some ad) n c) (some (.int .i64 (k : Int))) (some (.int .i64 (m : Int))) none).run Try.prog w = .ok (.slice (some (cutAd ad c k)) (m - k) (c - k)) w := by
  have k1 : (k : Int) ≤ (m : Int) := by omega
  have k2 : (m : Int) ≤ (c : Int) := by omega
  go_simp
  unfold cutAd
  split <;> rfl
section
variable {a : Act} {w : World} {o : Oper} {x lo hi : Operand} {ad : Addr} {n c k m : Nat}
theorem exec_cutFrom (ho : o.op = .slice 23 x (some lo) none none) (hx : a.eval x = .slice (some ad) n c) (hl : a.eval lo = .int .i64 (k : Int)) (hk : k ≤ n) :
    (execOp a.eval o).run Try.prog w = .ok (.value (.slice (some (cutAd ad c k)) (n - k) (c - k))) w := by
  unfold execOp
  simp only [ho, hx, hl, Option.map_some, Option.map_none, Sem.run_bind, run_cutFrom w ad n c k hk, Result.andThen_ok, Sem.run_pure]
theorem exec_cutTo (ho : o.op = .slice 23 x none (some hi) none) (hx : a.eval x = .slice (some ad) n c) (hh : a.eval hi = .int .i64 (m : Int)) (hm : m ≤ c) :
    (execOp a.eval o).run Try.prog w = .ok (.value (.slice (some ad) m c)) w := by
  unfold execOp
  simp only [ho, hx, hh, Option.map_some, Option.map_none, Sem.run_bind, run_cutTo w ad n c m hm, Result.andThen_ok, Sem.run_pure]
theorem exec_cutBoth (ho : o.op = .slice 23 x (some lo) (some hi) none) (hx : a.eval x = .slice (some ad) n c) (hl : a.eval lo = .int .i64 (k : Int)) (hh : a.eval hi = .int .i64 (m : Int)) (hk : k ≤ m) (hm : m ≤ c) :
    (execOp a.eval o).run Try.prog w = .ok (.value (.slice (some (cutAd ad c k)) (m - k) (c - k))) w := by
  unfold execOp
  simp only [ho, hx, hl, hh, Option.map_some, Option.map_none, Sem.run_bind, run_cutBoth w ad n c k m hk hm, Result.andThen_ok, Sem.run_pure]
end

/-- Another row, to be read: no cell of block g. -/
structure Other (w : World) (rd : Addr) (rc : Nat) (rv : List UInt8) (g : Nat) : Prop where
  src : Src w (.slice (some rd) rv.length rc) (rv.map B8)
  ne : rd.block ≠ g
section
variable {w w' : World} {rd : Addr} {rc g : Nat} {rv : List UInt8} {S : List Nat}
theorem Other.fr (h : Other w rd rc rv g) (hf : Fr S w w') (hS : ∀ x ∈ S, x = g) : Other w' rd rc rv g :=
  ⟨h.src.fr hf (fun k hk hm => h.ne (by injection hk with hk; rw [hk]; exact hS k hm)), h.ne⟩
theorem Other.drew (h : Other w rd rc rv g) : Other w.drew rd rc rv g := ⟨h.src, h.ne⟩
theorem Other.cell (h : Other w rd rc rv g) {k : Nat} (hk : k < rv.length) : w.cell? (rd.add k) = some (.int .u8 ((rv.getD k 0).toNat : Int)) := by
  obtain ⟨ad, e, hc⟩ := h.src.cellAt (f := B8) (x := rv.getD k 0) (by rw [List.getD_eq_getElem?_getD, List.getElem?_eq_getElem hk]; rfl)
  injection e with e
  subst e
  exact hc
theorem Other.cap (h : Other w rd rc rv g) : rv.length ≤ rc := by
  rcases h.src with ⟨e, -⟩ | ⟨ad', c', e, hle, -⟩
  · cases e
  · injection e with e1 e2 e3
    rw [List.length_map] at hle
    omega
end
end Go.Proofs.Ytlcjlgdcleenlaa

/-
  Contracts of the landed planes: fill, getRow, layRow: parts of a row written. Conditions: the part lies in a row of bytes, the other row elsewhere.
-/
namespace Go.Proofs.Ytlcjlgdcleenlaa
open Go.RowKit

/-- A part filled with one byte. -/
theorem fill_any (v : UInt8) (ad : Addr) (g o n c C : Nat) (xs : List UInt8) (w : World) (hR : RowAt w g C xs) (hp : Part ad g o n) (hn : o + n ≤ xs.length) (hm : n ≤ 100000000) :
    Calls Try.prog 53 #[.slice (some ad) n c, B8 v] w fun e w' => e = .returned (.tuple #[]) ∧ RowAt w' g C (splice xs o (List.replicate n v)) ∧ Fr [g] w w' := by
  show Calls Try.prog 53 #[.slice (some ad) n c, .int .u8 (v.toNat : Int)] w _
  have HR := Lib.hid hR; have HP := Lib.hid hp; have HN := Lib.hid hn
  clear hR hp hn
  go_enter Try.func53, Try.ntmps53
  go_wp2_with fail
  go_loopw [7] (fun s7 wr => ∃ i : Nat, i ≤ n ∧ s7 = .int .i64 (i : Int) ∧ RowAt wr g C (splice xs o (List.replicate i v)) ∧ Fr [g] w wr) (fun s7 _ => n - (intOf s7).toNat)
  case atStart => exact ⟨0, by omega, rfl, by rw [List.replicate_zero, splice_nil]; exact HR.out, Fr.refl _ _⟩
  case round =>
    obtain ⟨i, hi, rfl, hR, hF⟩ := hrel
    by_cases hlt : i < n
    · have eg : decide (i < n) = true := by simpa using hlt
      have hlen : (splice xs o (List.replicate i v)).length = xs.length := length_splice _ _ _ (by simp; have := HN.out; omega)
      obtain ⟨cx, fx⟩ := hR.cell (j := o + i) (by have := HN.out; omega)
      have ha := HP.out.at_ i hlt
      rw [← ha] at cx fx
      have hset := hR.set (o + i) v
      have hsn : (splice xs o (List.replicate i v)).set (o + i) v = splice xs o (List.replicate (i + 1) v) := by
        have := splice_snoc xs (List.replicate i v) o v (by simp; have := HN.out; omega)
        rw [List.length_replicate] at this
        rw [this, List.replicate_succ']
      rw [hsn, ← ha] at hset
      have hbl := hR.lt
      have hF2 : Fr [g] w (wr.setCell (ad.add i) (.int .u8 (v.toNat : Int))) := hF.setCell (.inl (by rw [ha]; simp)) _
      have HS := Lib.hid hset; have HF2 := Lib.hid hF2
      clear hR hF ha hset hsn hlen hF2 HR hbl
      go_wp2_with fail
      exact ⟨⟨i + 1, by omega, by simp, HS.out, HF2.out⟩, by simp [intOf]; omega⟩
    · have eg : decide (i < n) = false := by simpa using hlt
      have hin : i = n := by omega
      rw [hin] at hR
      have HS := Lib.hid hR; have HF2 := Lib.hid hF
      clear hR hF hin HR
      go_wp2_with fail
      go_end0
      exact ⟨rfl, HS.out, HF2.out⟩

/-- A row's samples from x on; what is outside is the nearest one. -/
def rowGet (rv : List UInt8) (x : Int) (n : Nat) : List UInt8 := (List.range n).map fun (j : Nat) => rv.getD (nearI (x + (j : Int)) rv.length).toNat 0
theorem rowGet_length (rv : List UInt8) (x : Int) (n : Nat) : (rowGet rv x n).length = n := by simp [rowGet]
theorem getD_some {l : List UInt8} {i : Nat} (h : i < l.length) : l[i]? = some (l.getD i 0) := by rw [List.getD_eq_getElem?_getD, List.getElem?_eq_getElem h]; rfl
theorem rowGet_parts (rv : List UInt8) (x : Int) (n ah st : Nat) (hl : 1 ≤ rv.length) (ha : (ah : Int) = nst (-x) 0 n) (hs : (st : Int) = nst x 0 rv.length) :
    List.replicate ah (rv.getD 0 0) ++ ((rv.drop st).take (n - ah) ++ List.replicate (n - ah - min (rv.length - st) (n - ah)) (rv.getD (rv.length - 1) 0)) = rowGet rv x n := by
  unfold nst at ha hs
  apply List.ext_getElem?
  intro j
  unfold rowGet
  by_cases hj : j < n
  · rw [List.getElem?_map, List.getElem?_range hj]
    simp only [Option.map_some]
    by_cases h1 : j < ah
    · rw [List.getElem?_append_left (by simpa using h1), List.getElem?_replicate, if_pos h1]
      congr 2
      unfold nearI
      rw [if_pos (by omega)]
      rfl
    · rw [List.getElem?_append_right (by simp; omega), List.length_replicate]
      by_cases h2 : j - ah < min (n - ah) (rv.length - st)
      · rw [List.getElem?_append_left (by simp; omega), List.getElem?_take, if_pos (by omega), List.getElem?_drop, getD_some (by omega)]
        congr 2
        unfold nearI
        rw [if_neg (by omega), if_neg (by omega)]
        omega
      · rw [List.getElem?_append_right (by simp; omega), List.getElem?_replicate, if_pos (by simp; omega)]
        congr 2
        unfold nearI
        rw [if_neg (by omega), if_pos (by omega)]
        omega
  · rw [List.getElem?_eq_none (by simp; omega), List.getElem?_eq_none (by simp; omega)]

set_option maxRecDepth 20000 in
set_option maxHeartbeats 4000000 in
theorem getRow_any (x : Int) (ad rd : Addr) (g o n c C rc : Nat) (xs rv : List UInt8) (w : World) (hR : RowAt w g C xs) (hp : Part ad g o n) (hn : o + n ≤ xs.length) (hnc : n ≤ c) (hn64 : n ≤ 64)
    (hO : Other w rd rc rv g) (hl : 1 ≤ rv.length) (hl2 : rv.length ≤ 4096) (hx : -64 ≤ x) (hx2 : x ≤ 4096) :
    Calls Try.prog 50 #[.slice (some ad) n c, .slice (some rd) rv.length rc, .int .i64 x] w fun e w' => e = .returned (.tuple #[]) ∧ RowAt w' g C (splice xs o (rowGet rv x n)) ∧ Fr [g] w w' := by
  obtain ⟨r1, r2⟩ := nst_range (-x) (a := 0) (b := (n : Int)) (by omega)
  obtain ⟨q1, q2⟩ := nst_range x (a := 0) (b := (rv.length : Int)) (by omega)
  obtain ⟨ah, hah⟩ : ∃ ah : Nat, (ah : Int) = nst (-x) 0 n := ⟨(nst (-x) 0 n).toNat, by omega⟩
  obtain ⟨st, hst⟩ : ∃ st : Nat, (st : Int) = nst x 0 rv.length := ⟨(nst x 0 rv.length).toNat, by omega⟩
  have hah2 : ah ≤ n := by omega
  have hst2 : st ≤ rv.length := by omega
  have hparts := rowGet_parts rv x n ah st hl hah hst
  have hN1 := fun w => nearest_any (-x) 0 (n : Int) w
  have hN2 := fun w => nearest_any x 0 (rv.length : Int) w
  rw [← hah] at hN1
  rw [← hst] at hN2
  obtain ⟨V, hV⟩ : ∃ V, V + 1 = rv.length := ⟨rv.length - 1, by omega⟩
  obtain ⟨ins, hins⟩ : ∃ ins, ins = min (rv.length - st) (n - ah) := ⟨_, rfl⟩
  rw [← hins] at hparts
  have hrc := hO.cap
  obtain ⟨z0, hz0⟩ : ∃ z, z = rv.getD 0 0 := ⟨_, rfl⟩
  obtain ⟨zl, hzl⟩ : ∃ z, z = rv.getD (rv.length - 1) 0 := ⟨_, rfl⟩
  rw [← hz0, ← hzl] at hparts
  have cell0 : ∀ W', Other W' rd rc rv g → W'.cell? rd = some (.int .u8 (z0.toNat : Int)) := fun W' h => by
    have := h.cell (k := 0) (by omega)
    rw [← hz0] at this
    simpa [Addr.add] using this
  have cellV : ∀ W', Other W' rd rc rv g → W'.cell? (rd.add V) = some (.int .u8 (zl.toNat : Int)) := fun W' h => by
    have := h.cell (k := V) (by omega)
    rw [show V = rv.length - 1 by omega, ← hzl] at this
    rw [show V = rv.length - 1 by omega]
    exact this
  rw [← hV] at hN2 hst2 hrc ⊢
  have HN1 := Lib.hid hN1; have HN2 := Lib.hid hN2; have Hparts := Lib.hid hparts; have HR := Lib.hid hR; have HP := Lib.hid hp; have HO := Lib.hid hO
  have Hc0 := Lib.hid cell0; have Hcv := Lib.hid cellV; have Hins := Lib.hid hins; have HV := Lib.hid hV; have Hn := Lib.hid hn
  have x1 : -9223372036854775808 ≤ -x := by omega
  have x2 : -x ≤ 9223372036854775807 := by omega
  clear hN1 hN2 hparts hR hp hO cell0 cellV hins hV hn hz0 hzl hah hst r1 r2 q1 q2 hx hx2 hl
  go_enter Try.func50, Try.ntmps50
  go_wp2_with fail
  refine (HN1.out _).mono ?_
  rintro e w1 ⟨rfl, rfl⟩
  go_upto_region 1 with fail
  have HRd : Hid (RowAt w1.drew g C xs) := HR
  have HOd := Lib.hid HO.out.drew
  have hsrc : Src w1.drew (.slice (some (cutAd rd rc st)) (V + 1 - st) (rc - st)) ((rv.drop st).map B8) := by
    have := HOd.out.src.cutAd (k := st) (by have := HV.out; omega)
    rw [← HV.out] at this
    rw [List.map_drop]
    exact this
  have hmin : min (rv.drop st).length (n - ah) = ins := by rw [List.length_drop, Hins.out]
  have hXl : ((rv.drop st).take (n - ah)).length = ins := by rw [List.length_take, Nat.min_comm, hmin]
  have hins2 : ins ≤ n - ah := by rw [← hmin]; exact Nat.min_le_right _ _
  have Hsrc := Lib.hid hsrc; have Hmin := Lib.hid hmin; have HXl := Lib.hid hXl
  clear hsrc hmin hXl
  refine wp_region_held_drew (S := fun _ => True) (by kernel_rfl) ?_ (fun hHeld => ?_)
  · trivial
  refine wpAnyH_pick 0 (v := ?_) rfl (by kernel_rfl) (by kernel_rfl) (by kernel_rfl) (fun _ _ _ h => h) (by assumption) (by rfl) ?_ ?_
  rotate_left
  · (intro w hSw; (try dsimp only at hSw); go_simp) <;> (with_reducible rfl)
  (try simp only [Act.put, List.setIfInBounds_toArray, List.set_cons_zero, List.set_cons_succ])
  refine wpAnyH_pick 1 (v := ?_) rfl (by kernel_rfl) (by kernel_rfl) (by kernel_rfl) (fun _ _ _ h => h) (by assumption) (by rfl) ?_ ?_
  rotate_left
  · (intro w hSw; (try dsimp only at hSw); go_simp) <;> (with_reducible rfl)
  (try simp only [Act.put, List.setIfInBounds_toArray, List.set_cons_zero, List.set_cons_succ])
  refine wpAnyH_pick 2 rfl (by kernel_rfl) (by kernel_rfl) (by kernel_rfl) (fun _ _ _ h => h) (by assumption) (by rfl) (fun w hSw => exec_cutFrom rfl rfl rfl hah2) ?_
  (try simp only [Act.put, List.setIfInBounds_toArray, List.set_cons_zero, List.set_cons_succ])
  refine wpAnyH_pick 3 (v := ?_) rfl (by kernel_rfl) (by kernel_rfl) (by kernel_rfl) (fun _ _ _ h => h) (by assumption) (by rfl) ?_ ?_
  rotate_left
  · (intro w hSw; (try dsimp only at hSw); go_simp) <;> (with_reducible rfl)
  (try simp only [Act.put, List.setIfInBounds_toArray, List.set_cons_zero, List.set_cons_succ])
  refine wpAnyH_pick 4 (v := ?_) rfl (by kernel_rfl) (by kernel_rfl) (by kernel_rfl) (fun _ _ _ h => h) (by assumption) (by rfl) ?_ ?_
  rotate_left
  · (intro w hSw; (try dsimp only at hSw); go_simp) <;> (with_reducible rfl)
  (try simp only [Act.put, List.setIfInBounds_toArray, List.set_cons_zero, List.set_cons_succ])
  refine wpAnyH_pick 5 (v := ?_) rfl (by kernel_rfl) (by kernel_rfl) (by kernel_rfl) (fun _ _ _ h => h) (by assumption) (by rfl) ?_ ?_
  rotate_left
  · (intro w hSw; (try dsimp only at hSw); go_simp) <;> (with_reducible rfl)
  (try simp only [Act.put, List.setIfInBounds_toArray, List.set_cons_zero, List.set_cons_succ])
  refine wpAnyH_pick 6 (v := ?_) rfl (by kernel_rfl) (by kernel_rfl) (by kernel_rfl) (fun _ _ _ h => h) (by assumption) (by rfl) ?_ ?_
  rotate_left
  · (intro w hSw; (try dsimp only at hSw); go_simp) <;> (with_reducible rfl)
  (try simp only [Act.put, List.setIfInBounds_toArray, List.set_cons_zero, List.set_cons_succ])
  refine wpAnyH_ready (rs := [7]) (by kernel_rfl) (by simp) ?_
  refine AllReadyH_pick rfl (fun K hK => ?_) (AllReadyH.nil)
  go_simp
  refine (HN2.out _).mono ?_
  rintro e w2 ⟨rfl, rfl⟩
  go_wp2_with fail
  refine hK.out _ _ ?_ (fun hHeld => ?_)
  · trivial
  clear hK K
  (try simp only [Act.put, List.setIfInBounds_toArray, List.set_cons_zero, List.set_cons_succ])
  refine wpAnyH_pick 8 rfl (by kernel_rfl) (by kernel_rfl) (by kernel_rfl) (fun _ _ _ h => h) (by assumption) (by rfl) (fun w hSw => exec_cutFrom rfl rfl rfl hst2) ?_
  (try simp only [Act.put, List.setIfInBounds_toArray, List.set_cons_zero, List.set_cons_succ])
  refine wpAnyH_ready (rs := [9]) (by kernel_rfl) (by simp) ?_
  refine AllReadyH_pick rfl (fun K hK => ?_) (AllReadyH.nil)
  refine step_copy_part (.tmp 15) (.tmp 21) rfl rfl g C xs (cutAd ad c ah) (o + ah) (n - ah) (c - ah) _ (rv.drop st) rfl rfl HRd.out (HP.out.cutAd (by omega) hnc) (by have := Hn.out; omega) Hsrc.out ?_
  intro w5 hR5 hF5
  rw [Hmin.out]
  refine hK.out _ _ ?_ (fun hHeld => ?_)
  · trivial
  clear hK K
  (try simp only [Act.put, List.setIfInBounds_toArray, List.set_cons_zero, List.set_cons_succ])
  refine wpAnyH_pick 10 (v := ?_) rfl (by kernel_rfl) (by kernel_rfl) (by kernel_rfl) (fun _ _ _ h => h) (by assumption) (by rfl) ?_ ?_
  rotate_left
  · (intro w hSw; (try dsimp only at hSw); go_simp) <;> (with_reducible rfl)
  (try simp only [Act.put, List.setIfInBounds_toArray, List.set_cons_zero, List.set_cons_succ])
  refine wpAnyH_done (by kernel_rfl) ?_ _
  skip
  have hF05 : Fr [g] w1 w5 := ((Fr.refl [g] w1).drew).trans hF5 (fun x hx => .inl hx)
  obtain ⟨X1, hX1⟩ : ∃ X, X = splice xs (o + ah) (List.take (n - ah) (List.drop st rv)) := ⟨_, rfl⟩
  rw [← hX1] at hR5
  have hX1l : X1.length = xs.length := by rw [hX1, length_splice _ _ _ (by rw [HXl.out]; have := Hn.out; omega)]
  have HX1 := Lib.hid hX1; have HX1l := Lib.hid hX1l; have HR5 := Lib.hid hR5; have HF05 := Lib.hid hF05
  have hO5 := (HO.out.fr hF05 (by simp)).drew
  have k0 : w5.drew.cell? rd = some (.int .u8 (z0.toNat : Int)) := Hc0.out _ hO5
  have HO5 := Lib.hid hO5
  clear hF5 hR5 hF05 hX1 hX1l hO5 HN1 HN2 Hsrc Hmin HRd HOd
  go_upto_region 2 with fail
  have HR5d : Hid (RowAt w5.drew g C X1) := HR5
  have kac : ah ≤ c := by omega
  refine wp_region_held_drew (S := fun W' => W'.cell? rd = some (.int .u8 (z0.toNat : Int))) (by kernel_rfl) ?_ (fun hHeld => ?_)
  · (first | exact m0 | exact k0)
  refine wpAnyH_pick 0 (v := ?_) rfl (by kernel_rfl) (by kernel_rfl) (by kernel_rfl) (fun _ _ _ h => h) (by assumption) (by rfl) ?_ ?_
  rotate_left
  · (intro w hSw; (try dsimp only at hSw); go_simp) <;> (with_reducible rfl)
  (try simp only [Act.put, List.setIfInBounds_toArray, List.set_cons_zero, List.set_cons_succ])
  refine wpAnyH_pick 1 (v := ?_) rfl (by kernel_rfl) (by kernel_rfl) (by kernel_rfl) (fun _ _ _ h => h) (by assumption) (by rfl) ?_ ?_
  rotate_left
  · (intro w hSw; (try dsimp only at hSw); go_simp) <;> (with_reducible rfl)
  (try simp only [Act.put, List.setIfInBounds_toArray, List.set_cons_zero, List.set_cons_succ])
  refine wpAnyH_pick 2 rfl (by kernel_rfl) (by kernel_rfl) (by kernel_rfl) (fun _ _ _ h => h) (by assumption) (by rfl) (fun w hSw => exec_cutTo rfl rfl rfl kac) ?_
  (try simp only [Act.put, List.setIfInBounds_toArray, List.set_cons_zero, List.set_cons_succ])
  refine wpAnyH_pick 3 (v := ?_) rfl (by kernel_rfl) (by kernel_rfl) (by kernel_rfl) (fun _ _ _ h => h) (by assumption) (by rfl) ?_ ?_
  rotate_left
  · (intro w hSw; (try dsimp only at hSw); go_simp) <;> (with_reducible rfl)
  (try simp only [Act.put, List.setIfInBounds_toArray, List.set_cons_zero, List.set_cons_succ])
  refine wpAnyH_pick 4 (v := ?_) rfl (by kernel_rfl) (by kernel_rfl) (by kernel_rfl) (fun _ _ _ h => h) (by assumption) (by rfl) ?_ ?_
  rotate_left
  · (intro w hSw; (try dsimp only at hSw); go_simp) <;> (with_reducible rfl)
  (try simp only [Act.put, List.setIfInBounds_toArray, List.set_cons_zero, List.set_cons_succ])
  refine wpAnyH_pick 5 (v := ?_) rfl (by kernel_rfl) (by kernel_rfl) (by kernel_rfl) (fun _ _ _ h => h) (by assumption) (by rfl) ?_ ?_
  rotate_left
  · (intro w hSw; (try dsimp only at hSw); go_simp) <;> (with_reducible rfl)
  (try simp only [Act.put, List.setIfInBounds_toArray, List.set_cons_zero, List.set_cons_succ])
  refine wpAnyH_ready (rs := [6]) (by kernel_rfl) (by simp) ?_
  refine AllReadyH_pick rfl (fun K hK => ?_) (AllReadyH.nil)
  go_simp
  refine (fill_any z0 ad g o ah c C X1 _ HR5d.out (HP.out.less hah2) (by have := HX1l.out; have := Hn.out; omega) (by omega)).mono ?_
  rintro e w6 ⟨rfl, hR6, hF6⟩
  have HO6 := Lib.hid (HO5.out.fr hF6 (by simp))
  have m0 := Hc0.out _ HO6.out
  have HR6 := Lib.hid hR6; have HF6 := Lib.hid hF6
  clear hR6 hF6
  go_wp2_with fail
  refine hK.out _ _ ?_ (fun hHeld => ?_)
  · (first | exact m0 | exact k0)
  clear hK K
  (try simp only [Act.put, List.setIfInBounds_toArray, List.set_cons_zero, List.set_cons_succ])
  refine wpAnyH_done (by kernel_rfl) ?_ _
  skip
  obtain ⟨X2, hX2⟩ : ∃ X, X = splice X1 o (List.replicate ah z0) := ⟨_, rfl⟩
  rw [← hX2] at HR6
  have hX2l : X2.length = xs.length := by rw [hX2, length_splice _ _ _ (by simp; have := HX1l.out; have := Hn.out; omega), HX1l.out]
  have HX2 := Lib.hid hX2; have HX2l := Lib.hid hX2l
  have HF06 := Lib.hid ((HF05.out.drew).trans HF6.out (fun x hx => .inl hx))
  have hO6 := HO6.out.drew
  have n0 : w6.drew.cell? (rd.add V) = some (.int .u8 (zl.toNat : Int)) := Hcv.out _ hO6
  have HO6d := Lib.hid hO6
  clear hX2 hX2l hO6 HF05 HF6 k0 m0 HO5 HR5d HR5
  go_upto_region 3 with fail
  have HR6d : Hid (RowAt w6.drew g C X2) := HR6
  obtain ⟨AI, hAI⟩ : ∃ AI, AI = ah + ins := ⟨_, rfl⟩
  have eAI : (ah : Int) + (ins : Int) = (AI : Int) := by rw [hAI]; simp
  have kAI : AI ≤ n := by omega
  have wAI : IntKind.i64.wrap (AI : Int) = (AI : Int) := IntWalk.i64_in _ (by omega)
  have hVl : V ≤ 4096 := by have := HV.out; omega
  have wV : IntKind.i64.wrap (V : Int) = (V : Int) := IntWalk.i64_in _ (by omega)
  have kV : (V : Int) < (V : Int) + 1 := by omega
  have HAI := Lib.hid hAI
  clear hAI
  refine wp_region_held_drew (S := fun W' => W'.cell? (rd.add V) = some (.int .u8 (zl.toNat : Int))) (by kernel_rfl) ?_ (fun hHeld => ?_)
  · (first | exact p0 | exact n0)
  refine wpAnyH_pick 0 (v := ?_) rfl (by kernel_rfl) (by kernel_rfl) (by kernel_rfl) (fun _ _ _ h => h) (by assumption) (by rfl) ?_ ?_
  rotate_left
  · (intro w hSw; (try dsimp only at hSw); go_simp) <;> (with_reducible rfl)
  (try simp only [Act.put, List.setIfInBounds_toArray, List.set_cons_zero, List.set_cons_succ])
  refine wpAnyH_pick 1 (v := ?_) rfl (by kernel_rfl) (by kernel_rfl) (by kernel_rfl) (fun _ _ _ h => h) (by assumption) (by rfl) ?_ ?_
  rotate_left
  · (intro w hSw; (try dsimp only at hSw); go_simp) <;> (with_reducible rfl)
  (try simp only [Act.put, List.setIfInBounds_toArray, List.set_cons_zero, List.set_cons_succ])
  refine wpAnyH_pick 2 (v := ?_) rfl (by kernel_rfl) (by kernel_rfl) (by kernel_rfl) (fun _ _ _ h => h) (by assumption) (by rfl) ?_ ?_
  rotate_left
  · (intro w hSw; (try dsimp only at hSw); go_simp) <;> (with_reducible rfl)
  (try simp only [Act.put, List.setIfInBounds_toArray, List.set_cons_zero, List.set_cons_succ])
  refine wpAnyH_pick 3 (v := ?_) rfl (by kernel_rfl) (by kernel_rfl) (by kernel_rfl) (fun _ _ _ h => h) (by assumption) (by rfl) ?_ ?_
  rotate_left
  · (intro w hSw; (try dsimp only at hSw); go_simp) <;> (with_reducible rfl)
  (try simp only [Act.put, List.setIfInBounds_toArray, List.set_cons_zero, List.set_cons_succ])
  refine wpAnyH_pick 4 rfl (by kernel_rfl) (by kernel_rfl) (by kernel_rfl) (fun _ _ _ h => h) (by assumption) (by rfl) (fun w hSw => exec_cutFrom rfl rfl rfl kAI) ?_
  (try simp only [Act.put, List.setIfInBounds_toArray, List.set_cons_zero, List.set_cons_succ])
  refine wpAnyH_pick 5 (v := ?_) rfl (by kernel_rfl) (by kernel_rfl) (by kernel_rfl) (fun _ _ _ h => h) (by assumption) (by rfl) ?_ ?_
  rotate_left
  · (intro w hSw; (try dsimp only at hSw); go_simp) <;> (with_reducible rfl)
  (try simp only [Act.put, List.setIfInBounds_toArray, List.set_cons_zero, List.set_cons_succ])
  refine wpAnyH_pick 6 (v := ?_) rfl (by kernel_rfl) (by kernel_rfl) (by kernel_rfl) (fun _ _ _ h => h) (by assumption) (by rfl) ?_ ?_
  rotate_left
  · (intro w hSw; (try dsimp only at hSw); go_simp) <;> (with_reducible rfl)
  (try simp only [Act.put, List.setIfInBounds_toArray, List.set_cons_zero, List.set_cons_succ])
  refine wpAnyH_pick 7 (v := ?_) rfl (by kernel_rfl) (by kernel_rfl) (by kernel_rfl) (fun _ _ _ h => h) (by assumption) (by rfl) ?_ ?_
  rotate_left
  · (intro w hSw; (try dsimp only at hSw); go_simp) <;> (with_reducible rfl)
  (try simp only [Act.put, List.setIfInBounds_toArray, List.set_cons_zero, List.set_cons_succ])
  refine wpAnyH_pick 8 (v := ?_) rfl (by kernel_rfl) (by kernel_rfl) (by kernel_rfl) (fun _ _ _ h => h) (by assumption) (by rfl) ?_ ?_
  rotate_left
  · (intro w hSw; (try dsimp only at hSw); go_simp) <;> (with_reducible rfl)
  (try simp only [Act.put, List.setIfInBounds_toArray, List.set_cons_zero, List.set_cons_succ])
  refine wpAnyH_pick 9 (v := ?_) rfl (by kernel_rfl) (by kernel_rfl) (by kernel_rfl) (fun _ _ _ h => h) (by assumption) (by rfl) ?_ ?_
  rotate_left
  · (intro w hSw; (try dsimp only at hSw); go_simp) <;> (with_reducible rfl)
  (try simp only [Act.put, List.setIfInBounds_toArray, List.set_cons_zero, List.set_cons_succ])
  refine wpAnyH_pick 10 (v := ?_) rfl (by kernel_rfl) (by kernel_rfl) (by kernel_rfl) (fun _ _ _ h => h) (by assumption) (by rfl) ?_ ?_
  rotate_left
  · (intro w hSw; (try dsimp only at hSw); go_simp) <;> (with_reducible rfl)
  (try simp only [Act.put, List.setIfInBounds_toArray, List.set_cons_zero, List.set_cons_succ])
  refine wpAnyH_ready (rs := [11]) (by kernel_rfl) (by simp) ?_
  refine AllReadyH_pick rfl (fun K hK => ?_) (AllReadyH.nil)
  go_simp
  refine (fill_any zl (cutAd ad c AI) g (o + AI) (n - AI) (c - AI) C X2 _ HR6d.out (HP.out.cutAd (by omega) hnc) (by have := HX2l.out; have := Hn.out; omega) (by omega)).mono ?_
  rintro e w7 ⟨rfl, hR7, hF7⟩
  have p0 := Hcv.out _ (HO6d.out.fr hF7 (by simp))
  have HR7 := Lib.hid hR7; have HF7 := Lib.hid hF7
  clear hR7 hF7
  go_wp2_with fail
  refine hK.out _ _ ?_ (fun hHeld => ?_)
  · (first | exact p0 | exact n0)
  clear hK K
  (try simp only [Act.put, List.setIfInBounds_toArray, List.set_cons_zero, List.set_cons_succ])
  refine wpAnyH_done (by kernel_rfl) ?_ _
  skip
  go_end0
  refine ⟨rfl, ?_, (HF06.out.drew).trans HF7.out (fun x hx => .inl hx)⟩
  have h := HR7.out
  have h3 := splice_three xs (List.replicate ah z0) ((rv.drop st).take (n - ah)) (List.replicate (n - ah - ins) zl) o (by rw [HXl.out]; simp; have := Hn.out; omega)
  rw [HXl.out, List.length_replicate, ← HX1.out, ← HX2.out, Hparts.out] at h3
  rw [← h3]
  rw [HAI.out, ← Nat.add_assoc, Nat.sub_add_eq] at h
  exact h
end Go.Proofs.Ytlcjlgdcleenlaa

/-
  Contracts of the landed planes: layRow. Conditions: the part lies in a row of bytes, the other row elsewhere.
-/
namespace Go.Proofs.Ytlcjlgdcleenlaa
open Go.RowKit

/-- A part laid into a row from x on; what would be outside is left out. -/
def rowLay (xs : List UInt8) (o W : Nat) (x : Int) (pv : List UInt8) : List UInt8 :=
  splice xs (o + (nst x 0 W).toNat) ((pv.drop (nst (-x) 0 pv.length).toNat).take (W - (nst x 0 W).toNat))

set_option maxRecDepth 20000 in
set_option maxHeartbeats 4000000 in
theorem layRow_any (x : Int) (ad rd : Addr) (g o W c C rc : Nat) (xs pv : List UInt8) (w : World) (hR : RowAt w g C xs) (hp : Part ad g o W) (hn : o + W ≤ xs.length) (hnc : W ≤ c) (hW : W ≤ 4096)
    (hO : Other w rd rc pv g) (hl2 : pv.length ≤ 64) (hx : -64 ≤ x) (hx2 : x ≤ 4096) :
    Calls Try.prog 42 #[.slice (some ad) W c, .slice (some rd) pv.length rc, .int .i64 x] w fun e w' => e = .returned (.tuple #[]) ∧ RowAt w' g C (rowLay xs o W x pv) ∧ Fr [g] w w' := by
  obtain ⟨r1, r2⟩ := nst_range (-x) (a := 0) (b := (pv.length : Int)) (by omega)
  obtain ⟨q1, q2⟩ := nst_range x (a := 0) (b := (W : Int)) (by omega)
  obtain ⟨ah, hah⟩ : ∃ ah : Nat, (ah : Int) = nst (-x) 0 pv.length := ⟨(nst (-x) 0 pv.length).toNat, by omega⟩
  obtain ⟨st, hst⟩ : ∃ st : Nat, (st : Int) = nst x 0 W := ⟨(nst x 0 W).toNat, by omega⟩
  have hah2 : ah ≤ pv.length := by omega
  have hst2 : st ≤ W := by omega
  have hres : rowLay xs o W x pv = splice xs (o + st) ((pv.drop ah).take (W - st)) := by
    unfold rowLay
    rw [← hah, ← hst, Int.toNat_natCast, Int.toNat_natCast]
  rw [hres]
  have hN1 := fun w => nearest_any (-x) 0 (pv.length : Int) w
  have hN2 := fun w => nearest_any x 0 (W : Int) w
  rw [← hah] at hN1
  rw [← hst] at hN2
  obtain ⟨n, hnn⟩ : ∃ n, n = pv.length := ⟨_, rfl⟩
  have hRd : RowAt w.drew g C xs := hR
  have hsrc : Src w.drew (.slice (some (cutAd rd rc ah)) (n - ah) (rc - ah)) ((pv.drop ah).map B8) := by
    have := hO.drew.src.cutAd (k := ah) hah2
    rw [← hnn] at this
    rw [List.map_drop]
    exact this
  rw [← hnn] at hN1 hah2 hl2 ⊢
  have HN1 := Lib.hid hN1; have HN2 := Lib.hid hN2; have HR := Lib.hid hRd; have HP := Lib.hid hp; have Hsrc := Lib.hid hsrc; have Hn := Lib.hid hn
  have wx : IntKind.i64.wrap (-x) = -x := IntWalk.i64_in _ (by omega)
  clear hN1 hN2 hR hRd hp hO hsrc hn hah hst r1 r2 q1 q2 hx hx2 hres hnn
  go_enter Try.func42, Try.ntmps42
  go_upto_region 0 with fail
  refine wp_region_held_drew (S := fun _ => True) (by kernel_rfl) ?_ (fun hHeld => ?_)
  · trivial
  refine wpAnyH_pick 0 (v := ?_) rfl (by kernel_rfl) (by kernel_rfl) (by kernel_rfl) (fun _ _ _ h => h) (by assumption) (by rfl) ?_ ?_
  rotate_left
  · (intro w hSw; (try dsimp only at hSw); go_simp) <;> (with_reducible rfl)
  (try simp only [Act.put, List.setIfInBounds_toArray, List.set_cons_zero, List.set_cons_succ])
  refine wpAnyH_pick 1 (v := ?_) rfl (by kernel_rfl) (by kernel_rfl) (by kernel_rfl) (fun _ _ _ h => h) (by assumption) (by rfl) ?_ ?_
  rotate_left
  · (intro w hSw; (try dsimp only at hSw); go_simp) <;> (with_reducible rfl)
  (try simp only [Act.put, List.setIfInBounds_toArray, List.set_cons_zero, List.set_cons_succ])
  refine wpAnyH_pick 2 (v := ?_) rfl (by kernel_rfl) (by kernel_rfl) (by kernel_rfl) (fun _ _ _ h => h) (by assumption) (by rfl) ?_ ?_
  rotate_left
  · (intro w hSw; (try dsimp only at hSw); go_simp) <;> (with_reducible rfl)
  (try simp only [Act.put, List.setIfInBounds_toArray, List.set_cons_zero, List.set_cons_succ])
  refine wpAnyH_pick 3 (v := ?_) rfl (by kernel_rfl) (by kernel_rfl) (by kernel_rfl) (fun _ _ _ h => h) (by assumption) (by rfl) ?_ ?_
  rotate_left
  · (intro w hSw; (try dsimp only at hSw); go_simp) <;> (with_reducible rfl)
  (try simp only [Act.put, List.setIfInBounds_toArray, List.set_cons_zero, List.set_cons_succ])
  refine wpAnyH_pick 6 (v := ?_) rfl (by kernel_rfl) (by kernel_rfl) (by kernel_rfl) (fun _ _ _ h => h) (by assumption) (by rfl) ?_ ?_
  rotate_left
  · (intro w hSw; (try dsimp only at hSw); go_simp) <;> (with_reducible rfl)
  (try simp only [Act.put, List.setIfInBounds_toArray, List.set_cons_zero, List.set_cons_succ])
  refine wpAnyH_pick 7 (v := ?_) rfl (by kernel_rfl) (by kernel_rfl) (by kernel_rfl) (fun _ _ _ h => h) (by assumption) (by rfl) ?_ ?_
  rotate_left
  · (intro w hSw; (try dsimp only at hSw); go_simp) <;> (with_reducible rfl)
  (try simp only [Act.put, List.setIfInBounds_toArray, List.set_cons_zero, List.set_cons_succ])
  refine wpAnyH_pick 8 (v := ?_) rfl (by kernel_rfl) (by kernel_rfl) (by kernel_rfl) (fun _ _ _ h => h) (by assumption) (by rfl) ?_ ?_
  rotate_left
  · (intro w hSw; (try dsimp only at hSw); go_simp) <;> (with_reducible rfl)
  (try simp only [Act.put, List.setIfInBounds_toArray, List.set_cons_zero, List.set_cons_succ])
  refine wpAnyH_pick 9 (v := ?_) rfl (by kernel_rfl) (by kernel_rfl) (by kernel_rfl) (fun _ _ _ h => h) (by assumption) (by rfl) ?_ ?_
  rotate_left
  · (intro w hSw; (try dsimp only at hSw); go_simp) <;> (with_reducible rfl)
  (try simp only [Act.put, List.setIfInBounds_toArray, List.set_cons_zero, List.set_cons_succ])
  refine wpAnyH_pick 10 (v := ?_) rfl (by kernel_rfl) (by kernel_rfl) (by kernel_rfl) (fun _ _ _ h => h) (by assumption) (by rfl) ?_ ?_
  rotate_left
  · (intro w hSw; (try dsimp only at hSw); go_simp) <;> (with_reducible rfl)
  (try simp only [Act.put, List.setIfInBounds_toArray, List.set_cons_zero, List.set_cons_succ])
  refine wpAnyH_ready (rs := [4]) (by kernel_rfl) (by simp) ?_
  refine AllReadyH_pick rfl (fun K hK => ?_) (AllReadyH.nil)
  go_simp
  refine (HN2.out _).mono ?_
  rintro e w2 ⟨rfl, rfl⟩
  go_wp2_with fail
  refine hK.out _ _ ?_ (fun hHeld => ?_)
  · trivial
  clear hK K
  (try simp only [Act.put, List.setIfInBounds_toArray, List.set_cons_zero, List.set_cons_succ])
  refine wpAnyH_pick 5 rfl (by kernel_rfl) (by kernel_rfl) (by kernel_rfl) (fun _ _ _ h => h) (by assumption) (by rfl) (fun w hSw => exec_cutFrom rfl rfl rfl hst2) ?_
  (try simp only [Act.put, List.setIfInBounds_toArray, List.set_cons_zero, List.set_cons_succ])
  refine wpAnyH_ready (rs := [11]) (by kernel_rfl) (by simp) ?_
  refine AllReadyH_pick rfl (fun K hK => ?_) (AllReadyH.nil)
  go_simp
  refine (HN1.out _).mono ?_
  rintro e w3 ⟨rfl, rfl⟩
  go_wp2_with fail
  refine hK.out _ _ ?_ (fun hHeld => ?_)
  · trivial
  clear hK K
  (try simp only [Act.put, List.setIfInBounds_toArray, List.set_cons_zero, List.set_cons_succ])
  refine wpAnyH_pick 12 rfl (by kernel_rfl) (by kernel_rfl) (by kernel_rfl) (fun _ _ _ h => h) (by assumption) (by rfl) (fun w hSw => exec_cutFrom rfl rfl rfl hah2) ?_
  (try simp only [Act.put, List.setIfInBounds_toArray, List.set_cons_zero, List.set_cons_succ])
  refine wpAnyH_ready (rs := [13]) (by kernel_rfl) (by simp) ?_
  refine AllReadyH_pick rfl (fun K hK => ?_) (AllReadyH.nil)
  refine step_copy_part (.tmp 11) (.tmp 18) rfl rfl g C xs (cutAd ad c st) (o + st) (W - st) (c - st) _ (pv.drop ah) rfl rfl HR.out (HP.out.cutAd (by omega) hnc) (by have := Hn.out; omega) Hsrc.out ?_
  intro w5 hR5 hF5
  have HR5 := Lib.hid hR5; have HF5 := Lib.hid hF5
  clear hR5 hF5
  refine hK.out _ _ ?_ (fun hHeld => ?_)
  · trivial
  clear hK K
  (try simp only [Act.put, List.setIfInBounds_toArray, List.set_cons_zero, List.set_cons_succ])
  refine wpAnyH_done (by kernel_rfl) ?_ _
  skip
  all_goals
    go_end0
    exact ⟨rfl, HR5.out, ((Fr.refl [g] _).drew).trans HF5.out (fun x hx => .inl hx)⟩
end Go.Proofs.Ytlcjlgdcleenlaa

/-
  Contracts of the landed planes: filled, New, bytes.Clone, copied. Conditions: the sides are right; the samples are not too many.
-/
namespace Go.Proofs.Ytlcjlgdcleenlaa
open Go.RowKit

set_option maxRecDepth 20000 in
set_option maxHeartbeats 4000000 in
theorem filled_any (W H : Nat) (v : UInt8) (w : World) (hW : 1 ≤ W) (hW2 : W ≤ 4096) (hH : 1 ≤ H) (hH2 : H ≤ 4096) :
    Calls Try.prog 36 #[.int .i64 (W : Int), .int .i64 (H : Int), B8 v] w fun e w' => ∃ x, e = .returned (plV W H (some ⟨x, 0, none⟩) (W * H) (W * H)) ∧ w.heap.size ≤ x ∧ RowAt w' x (W * H) (List.replicate (W * H) v) ∧ Fr [] w w' := by
  show Calls Try.prog 36 #[.int .i64 (W : Int), .int .i64 (H : Int), .int .u8 (v.toNat : Int)] w _
  obtain ⟨M, hM⟩ : ∃ M, M = W * H := ⟨_, rfl⟩
  have hMl : M ≤ 16777216 := by rw [hM]; exact Nat.mul_le_mul hW2 hH2
  have hM0 : 0 < M := by rw [hM]; exact Nat.mul_pos hW hH
  have eM : (W : Int) * (H : Int) = (M : Int) := by rw [hM]; simp
  rw [← hM]
  have ew : IntKind.i64.wrap (M : Int) = (M : Int) := IntWalk.i64_in _ (by omega)
  obtain ⟨i0, hi0, hz0, hs0, hb0⟩ := info_parts info_u8
  have hF : Fr [] w (w.alloc (.cells #[.int .i64 0, .int .i64 0, .slice none 0 0] 25)) := (Fr.refl _ _).alloc _
  have hB := Blk.new w 25 #[.int .i64 0, .int .i64 0, .slice none 0 0]
  have HF := Lib.hid hF; have HB := Lib.hid hB
  clear hM hF hB hW hH
  go_enter Try.func36, Try.ntmps36
  go_upto_region 1 with fail
  obtain ⟨r, hr⟩ : ∃ r, r = w.heap.size := ⟨_, rfl⟩
  generalize hw1 : w.alloc (.cells #[.int .i64 0, .int .i64 0, .slice none 0 0] 25) = w1 at HF HB ⊢
  rw [← hr] at HB ⊢
  have Hr := Lib.hid hr
  clear hr hw1
  go_wp2_with (at_make; refine wpList_make_mine _ _ 23 5 i0 _ 1 _ _ M rfl rfl Try.underlying23 hi0 hz0 hs0 hb0 rfl rfl rfl (by omega) (by simp only [maxLen]; omega) ?_)
  intro w2 hO hF2 hlt
  obtain ⟨x, hx⟩ : ∃ x, x = w1.heap.size := ⟨_, rfl⟩
  rw [← hx] at hO hlt ⊢
  have hR : RowAt w2 x M (List.replicate M 0) := by
    unfold RowAt
    rw [List.length_replicate, List.map_replicate]
    exact hO
  have hrx : r < x := by have := HB.out.lt; omega
  have hB2 := HB.out.fr hF2 (by simp)
  have hF02 := HF.out.trans hF2 (by simp)
  have hwx : w.heap.size ≤ x := by have := HF.out.size; omega
  have HR := Lib.hid hR; have HB2 := Lib.hid hB2; have HF02 := Lib.hid hF02; have Hx := Lib.hid (And.intro hrx (And.intro hwx hlt))
  clear hO hF2 hlt hx hR hrx hB2 hF02 hwx HB HF
  go_upto_region 2 with fail
  obtain ⟨q, hq⟩ : ∃ q, q = w2.heap.size := ⟨_, rfl⟩
  have hf3 : Fr [] w2 (w2.alloc (.cells #[.int .i64 (W : Int), .int .i64 (H : Int), .slice (some ⟨x, 0, none⟩) M M] 25)) := (Fr.refl _ _).alloc _
  have hQ3 := Blk.new w2 25 #[.int .i64 (W : Int), .int .i64 (H : Int), .slice (some ⟨x, 0, none⟩) M M]
  generalize w2.alloc _ = w3 at hf3 hQ3 ⊢
  have hR3 := HR.out.fr hf3 (by simp)
  have hB3 := HB2.out.fr hf3 (by simp)
  have hF03 := HF02.out.trans hf3 (by simp)
  rw [← hq] at hQ3 ⊢
  have hxq : x < q := by have := Hx.out.2.2; omega
  have c2 := hQ3.cell 2
  have hlq := hQ3.lt
  simp at c2
  have HR3 := Lib.hid hR3; have HB3 := Lib.hid hB3; have HF03 := Lib.hid hF03; have HQ3 := Lib.hid hQ3; have Hxq := Lib.hid hxq
  clear hq hf3 hQ3 hR3 hB3 hF03 hxq HR HB2 HF02
  go_wp2_with fail
  have hlen : (List.replicate M (0 : UInt8)).length = M := List.length_replicate ..
  refine (fill_any v ⟨x, 0, none⟩ x 0 M M M (List.replicate M 0) w3 HR3.out (Part.whole x M) (by rw [hlen]; omega) (by omega)).mono ?_
  rintro e w4 ⟨rfl, hR4, hF4⟩
  rw [splice_whole _ _ (by simp)] at hR4
  have hQ4 := HQ3.out.fr hF4 (by simp; have := Hxq.out; omega)
  have hB4 := HB3.out.fr hF4 (by simp; have := Hx.out.1; omega)
  have hF04 := HF03.out.trans hF4 (by intro k hk; simp at hk; subst hk; exact .inr Hx.out.2.1)
  clear c2 hlq
  have c0 := hQ4.cell 0
  have c1 := hQ4.cell 1
  have c2 := hQ4.cell 2
  have hlq := hQ4.lt
  have d0 := hB4.cell 0
  have d1 := hB4.cell 1
  have d2 := hB4.cell 2
  have e0 := hB4.frozen 0
  have e1 := hB4.frozen 1
  have e2 := hB4.frozen 2
  have hlr := hB4.lt
  simp at c0 c1 c2 d0 d1 d2
  have hb5 := ((hB4.set_ 0 (.int .i64 (W : Int))).set_ 1 (.int .i64 (H : Int))).set_ 2 (.slice (some ⟨x, 0, none⟩) M M)
  have hf5 : Fr [r] w4 (((w4.setCell ⟨r, 0, none⟩ (.int .i64 (W : Int))).setCell ⟨r, 1, none⟩ (.int .i64 (H : Int))).setCell ⟨r, 2, none⟩ (.slice (some ⟨x, 0, none⟩) M M)) := (((Fr.refl [r] w4).setCell (.inl (by simp)) _).setCell (.inl (by simp)) _).setCell (.inl (by simp)) _
  have HB5 := Lib.hid hb5; have HF5 := Lib.hid hf5; have HR4 := Lib.hid hR4; have HF04 := Lib.hid hF04
  clear hb5 hf5 hR4 hF04 hF4 hQ4 hB4 hlen HR3 HB3 HF03 HQ3
  go_wp2_with fail
  refine bodyPost_ret (v := plV W H (some ⟨x, 0, none⟩) M M) (results_cell_row Try.results36 _ _ r 25 _ (0, 0) _ rfl HB5.out.here Try.underlying25 rfl (by kernel_rfl)) rfl ⟨x, rfl, Hx.out.2.1, ?_, ?_⟩
  · exact HR4.out.fr HF5.out (by simp; have := Hx.out.1; omega)
  · exact HF04.out.trans HF5.out (by intro k hk; simp at hk; subst hk; exact .inr (by rw [Hr.out]; exact Nat.le_refl _))

/-- What filled answers, as the law's plane. -/
theorem filled_mine (W H : Int) (v : UInt8) (w : World) (hW : sideOk W = true) (hH : sideOk H = true) :
    Calls Try.prog 36 #[.int .i64 W, .int .i64 H, B8 v] w fun e w' => ∃ x M, e = .returned (plV W H (some ⟨x, 0, none⟩) M M) ∧ PlMine w w' (plV W H (some ⟨x, 0, none⟩) M M) (plNew W H v).1 := by
  obtain ⟨a1, a2⟩ := sideOk_iff.1 hW
  obtain ⟨b1, b2⟩ := sideOk_iff.1 hH
  have hres : plNew W H v = (⟨W, H, List.replicate (W.toNat * H.toNat) v⟩, 0) := by unfold plNew; rw [hW, hH]; rfl
  rw [hres]
  obtain ⟨W', rfl⟩ : ∃ W' : Nat, W = (W' : Int) := ⟨W.toNat, by omega⟩
  obtain ⟨H', rfl⟩ : ∃ H' : Nat, H = (H' : Int) := ⟨H.toNat, by omega⟩
  simp only [Int.toNat_natCast]
  refine (filled_any W' H' v w (by omega) (by omega) (by omega) (by omega)).mono ?_
  rintro e w' ⟨x, rfl, hx, hR, hF⟩
  refine ⟨x, W' * H', rfl, some ⟨x, 0, none⟩, W' * H', by simp, ?_⟩
  exact hR.mine hF hx

set_option maxRecDepth 20000 in
set_option maxHeartbeats 4000000 in
theorem pnew_any (W H : Int) (v : UInt8) (w : World) : Calls Try.prog 11 #[.int .i64 W, .int .i64 H, B8 v] w (PlPost w (plNew W H v)) := by
  show Calls Try.prog 11 #[.int .i64 W, .int .i64 H, .int .u8 (v.toNat : Int)] w _
  have HW := Lib.hid fun w => isSide_any W w
  have HH := Lib.hid fun w => isSide_any H w
  have hF : Fr [] w (w.alloc (.cells #[.int .i64 0, .int .i64 0, .slice none 0 0] 25)) := (Fr.refl _ _).alloc _
  have hB := Blk.new w 25 #[.int .i64 0, .int .i64 0, .slice none 0 0]
  have HF := Lib.hid hF; have HB := Lib.hid hB
  clear hF hB
  have hno : ∀ (w' : World), Fr [] w w' → plNew W H v = (plNone, 61) → PlPost w (plNew W H v) (.returned (.tuple #[plV 0 0 none 0 0, .int .i64 61])) w' := by
    intro w' hf e
    rw [e]
    exact ⟨noAt, rfl, noAt_has _, hf⟩
  have Hno := Lib.hid hno
  clear hno
  cases h1 : sideOk W
  · rw [h1] at HW
    have Hres := Lib.hid (show plNew W H v = (plNone, 61) by unfold plNew; rw [h1]; rfl)
    clear h1
    go_enter Try.func11, Try.ntmps11
    go_wp2_with fail
    refine (HW.out _).mono ?_
    rintro e w1 ⟨rfl, rfl⟩
    go_wp2_with fail
    refine bodyPost_ret (v := .tuple #[plV 0 0 none 0 0, .int .i64 61]) (results_row_tmp Try.results11 _ _ w.heap.size 25 _ (0, 0) _ rfl HB.out.here Try.underlying25 rfl (by kernel_rfl)) rfl (Hno.out _ HF.out Hres.out)
  · cases h2 : sideOk H
    · rw [h1] at HW
      rw [h2] at HH
      have Hres := Lib.hid (show plNew W H v = (plNone, 61) by unfold plNew; rw [h1, h2]; rfl)
      clear h1 h2
      go_enter Try.func11, Try.ntmps11
      go_wp2_with fail
      refine (HW.out _).mono ?_
      rintro e w1 ⟨rfl, rfl⟩
      go_wp2_with fail
      refine (HH.out _).mono ?_
      rintro e w1 ⟨rfl, rfl⟩
      go_wp2_with fail
      refine bodyPost_ret (v := .tuple #[plV 0 0 none 0 0, .int .i64 61]) (results_row_tmp Try.results11 _ _ w.heap.size 25 _ (0, 0) _ rfl HB.out.here Try.underlying25 rfl (by kernel_rfl)) rfl (Hno.out _ HF.out Hres.out)
    · have HFill := Lib.hid (fun w' => filled_mine W H v w' h1 h2)
      have Hres := Lib.hid (show (plNew W H v).2 = 0 by unfold plNew; rw [h1, h2]; rfl)
      have Hwh := Lib.hid (show (plNew W H v).1.w = W ∧ (plNew W H v).1.h = H by unfold plNew; rw [h1, h2]; exact ⟨rfl, rfl⟩)
      rw [h1] at HW
      rw [h2] at HH
      clear h1 h2 Hno
      go_enter Try.func11, Try.ntmps11
      go_wp2_with fail
      refine (HW.out _).mono ?_
      rintro e w1 ⟨rfl, rfl⟩
      go_wp2_with fail
      refine (HH.out _).mono ?_
      rintro e w1 ⟨rfl, rfl⟩
      go_upto_region 3 with fail
      obtain ⟨r, hr⟩ : ∃ r, r = w.heap.size := ⟨_, rfl⟩
      generalize hw1 : w.alloc (.cells #[.int .i64 0, .int .i64 0, .slice none 0 0] 25) = w1 at HF HB ⊢
      rw [← hr] at HB ⊢
      have Hr := Lib.hid hr
      clear hr hw1 HW HH
      go_wp2_with fail
      refine (HFill.out _).mono ?_
      rintro e w2 ⟨x, M, rfl, A, c, hv, hM⟩
      have hM0 := hM
      unfold plV at hv
      injection hv with hv
      have hv2 : Value.slice (some ⟨x, 0, none⟩) M M = Value.slice A (plNew W H v).1.pix.length c := by
        have := congrArg (fun z : Array Value => z[2]?) hv
        simpa using this
      injection hv2 with e1 e2 e3
      subst e1 e2 e3
      have hB4 := HB.out.fr hM.fr (by simp)
      have hF4 := HF.out.trans hM.fr (by simp)
      have hrx : r < x := by
        have := hM.new x rfl
        have := HB.out.lt
        omega
      have d0 := hB4.cell 0
      have d1 := hB4.cell 1
      have d2 := hB4.cell 2
      have e0 := hB4.frozen 0
      have e1 := hB4.frozen 1
      have e2 := hB4.frozen 2
      have hlr := hB4.lt
      simp at d0 d1 d2
      obtain ⟨M, hMM⟩ : ∃ M, M = (plNew W H v).1.pix.length := ⟨_, rfl⟩
      have hb5 := ((hB4.set_ 0 (.int .i64 W)).set_ 1 (.int .i64 H)).set_ 2 (.slice (some ⟨x, 0, none⟩) M M)
      have hf5 : Fr [r] w2 (((w2.setCell ⟨r, 0, none⟩ (.int .i64 W)).setCell ⟨r, 1, none⟩ (.int .i64 H)).setCell ⟨r, 2, none⟩ (.slice (some ⟨x, 0, none⟩) M M)) := (((Fr.refl [r] w2).setCell (.inl (by simp)) _).setCell (.inl (by simp)) _).setCell (.inl (by simp)) _
      rw [← hMM] at hM ⊢
      have HB5 := Lib.hid hb5; have HF5 := Lib.hid hf5; have HM := Lib.hid hM; have HF4 := Lib.hid hF4; have Hrx := Lib.hid hrx; have HMM := Lib.hid hMM
      clear hb5 hf5 hM hM0 hF4 hB4 hrx hMM hv HB HF
      unfold plV
      go_wp2_with fail
      refine bodyPost_ret (v := .tuple #[plV W H (some ⟨x, 0, none⟩) M M, .int .i64 0]) (results_row_tmp Try.results11 _ _ r 25 _ (0, 0) _ rfl HB5.out.here Try.underlying25 rfl (by kernel_rfl)) rfl ⟨⟨W, H, some ⟨x, 0, none⟩, M, M⟩, ?_, ⟨Hwh.out.1.symm, Hwh.out.2.symm, HMM.out, ?_⟩, ?_⟩
      · rw [Hres.out]; rfl
      · exact HM.out.src.fr HF5.out (fun k hk => by injection hk with hk; simp at hk; simp; have := Hrx.out; omega)
      · exact HF4.out.trans HF5.out (by intro k hk; simp at hk; subst hk; exact .inr (by rw [Hr.out]; exact Nat.le_refl _))
end Go.Proofs.Ytlcjlgdcleenlaa

/-
  Frames copied, and written over. No program text here but the types of planes and frames.
-/
namespace Go.Proofs.Ytlcjlgdcleenlaa
open Go.RowKit

theorem samePl_symm (P Q : Pl) : samePl P Q = samePl Q P := by
  unfold samePl
  rw [show decide (P.w = Q.w) = decide (Q.w = P.w) by simp [eq_comm], show decide (P.h = Q.h) = decide (Q.h = P.h) by simp [eq_comm], show decide (P.pix = Q.pix) = decide (Q.pix = P.pix) by simp [eq_comm]]
theorem sameFr_symm (F G : Frm) : sameFr F G = sameFr G F := by
  unfold sameFr
  rw [samePl_symm F.y, samePl_symm F.u, samePl_symm F.v]

/-- The first i bytes one greater. -/
def incl (l : List UInt8) (i : Nat) : List UInt8 := (l.take i).map (· + 1) ++ l.drop i
@[simp] theorem incl_length (l : List UInt8) (i : Nat) : (incl l i).length = l.length := by simp [incl]; omega
theorem incl_zero (l : List UInt8) : incl l 0 = l := by simp [incl]
theorem incl_get (l : List UInt8) (i j : Nat) : (incl l i)[j]? = if j < i then (l[j]?).map (· + 1) else l[j]? := by
  unfold incl
  by_cases h : j < i
  · rw [if_pos h]
    by_cases hl : j < l.length
    · rw [List.getElem?_append_left (by simp; omega)]
      simp [h]
    · rw [List.getElem?_eq_none (by simp; omega), List.getElem?_eq_none (by omega)]
      rfl
  · rw [if_neg h]
    by_cases hl : i ≤ l.length
    · rw [List.getElem?_append_right (by simp; omega), List.getElem?_drop]
      congr 1
      simp
      omega
    · rw [List.getElem?_eq_none (by simp; omega), List.getElem?_eq_none (by omega)]
theorem incl_set (l : List UInt8) (i : Nat) (h : i < l.length) : (incl l i).set i (l.getD i 0 + 1) = incl l (i + 1) := by
  apply List.ext_getElem?
  intro j
  rw [List.getElem?_set, incl_get, incl_get]
  by_cases hj : i = j
  · subst hj
    rw [if_pos rfl, if_pos (by simpa using h), if_pos (by omega), List.getD_eq_getElem?_getD, List.getElem?_eq_getElem h]
    rfl
  · rw [if_neg hj]
    by_cases h1 : j < i
    · rw [if_pos h1, if_pos (by omega)]
    · rw [if_neg h1, if_neg (by omega)]
theorem incl_getD (l : List UInt8) (i : Nat) : (incl l i).getD i 0 = l.getD i 0 := by
  rw [List.getD_eq_getElem?_getD, List.getD_eq_getElem?_getD, incl_get, if_neg (by omega)]
theorem incl_ne (l : List UInt8) (h : l ≠ []) : incl l l.length ≠ l := by
  intro e
  have hl : 0 < l.length := List.length_pos_iff.2 h
  have h1 := incl_get l l.length 0
  rw [if_pos hl, e, List.getElem?_eq_getElem hl] at h1
  simp at h1

theorem Mine.other {w0 w w' : World} {v : Value} {bs : List UInt8} {g : Nat} (h : Mine w0 w v bs) (hf : Fr [g] w w') (hg : w0.heap.size ≤ g) (hn : ∀ k, v.ownBlock = some k → k ≠ g) : Mine w0 w' v bs :=
  ⟨h.own.fr hf (fun k hk hm => hn k hk (by simpa using hm)), h.fr.trans hf (by intro x hx; simp at hx; subst hx; exact .inr hg), h.new⟩

/-- A copied frame in a cell, its planes' rows its own; of two of its planes so many samples are one greater. -/
structure Cop (w0 w : World) (q : Nat) (y u v : FrAt) (F : Frm) (i j : Nat) : Prop where
  bk : Blk w q 30 (FrAt.cells y u v)
  ym : y.mine w0 w ⟨F.y.w, F.y.h, incl F.y.pix i⟩
  um : u.mine w0 w F.u
  vm : v.mine w0 w ⟨F.v.w, F.v.h, incl F.v.pix j⟩
  yu : y.away u
  yv : y.away v
  uv : u.away v
  yq : ∀ k, (Value.slice y.A y.n y.c).ownBlock = some k → k ≠ q
  vq : ∀ k, (Value.slice v.A v.n v.c).ownBlock = some k → k ≠ q
section
variable {w0 w w' : World} {q : Nat} {y u v : FrAt} {F : Frm} {i j : Nat}
theorem FrAt.mine.fr0 {a : FrAt} {P : Pl} (h : a.mine w0 w P) (hf : Fr [] w w') : a.mine w0 w' P := ⟨h.1, h.2.1, h.2.2.1, h.2.2.2.fr0 hf⟩
theorem Cop.fr0 (h : Cop w0 w q y u v F i j) (hf : Fr [] w w') : Cop w0 w' q y u v F i j :=
  ⟨h.bk.fr hf (by simp), h.ym.fr0 hf, h.um.fr0 hf, h.vm.fr0 hf, h.yu, h.yv, h.uv, h.yq, h.vq⟩
theorem Cop.fr (h : Cop w0 w q y u v F i j) : Fr [] w0 w := h.ym.2.2.2.fr
def bumped (F : Frm) (i j : Nat) : Frm := ⟨⟨F.y.w, F.y.h, incl F.y.pix i⟩, F.u, ⟨F.v.w, F.v.h, incl F.v.pix j⟩⟩
theorem Cop.has (h : Cop w0 w q y u v F i j) : FrAt3 y u v w (bumped F i j) := ⟨h.ym.has, h.um.has, h.vm.has⟩
theorem bumped_zero (F : Frm) : bumped F 0 0 = F := by unfold bumped; rw [incl_zero, incl_zero]
theorem bumped_small (h : F.small) (i j : Nat) : (bumped F i j).small := by
  obtain ⟨h1, h2, h3⟩ := h
  unfold Pl.small at h1 h3
  exact ⟨by show (incl F.y.pix i).length ≤ _; rw [incl_length]; exact h1, h2, by show (incl F.v.pix j).length ≤ _; rw [incl_length]; exact h3⟩
theorem bumped_other (h : F.y.pix ≠ []) (j : Nat) : sameFr (bumped F F.y.pix.length j) F = false := by
  unfold sameFr samePl
  have : decide ((bumped F F.y.pix.length j).y.pix = F.y.pix) = false := by
    simp only [decide_eq_false_iff_not]
    exact incl_ne _ h
  rw [this]
  simp
theorem Cop.new {a b c : FrAt} (hy : a.mine w0 w F.y) (hu : b.mine w0 w F.u) (hv : c.mine w0 w F.v) (h1 : a.away b) (h2 : a.away c) (h3 : b.away c) (hf : Fr [] w w') (hq : w' = w.alloc (.cells (FrAt.cells a b c) 30)) :
    Cop w0 w' w.heap.size a b c F 0 0 := by
  have e1 : (⟨F.y.w, F.y.h, incl F.y.pix 0⟩ : Pl) = F.y := by rw [incl_zero]
  have e2 : (⟨F.v.w, F.v.h, incl F.v.pix 0⟩ : Pl) = F.v := by rw [incl_zero]
  refine ⟨by rw [hq]; exact Blk.new _ _ _, by rw [e1]; exact hy.fr0 hf, hu.fr0 hf, by rw [e2]; exact hv.fr0 hf, h1, h2, h3, fun k hk => ?_, fun k hk => ?_⟩
  · have := hy.2.2.2.own.lt k hk; omega
  · have := hv.2.2.2.own.lt k hk; omega
theorem Cop.stepY (h : Cop w0 w q y u v F i j) (hi : i < F.y.pix.length) :
    ∃ g, y.A = some ⟨g, 0, none⟩ ∧ w.cell? ⟨g, i, none⟩ = some (.int .u8 ((F.y.pix.getD i 0).toNat : Int)) ∧ w.frozen? ⟨g, i, none⟩ = false ∧
      Cop w0 (w.setCell ⟨g, i, none⟩ (.int .u8 ((F.y.pix.getD i 0 + 1).toNat : Int))) q y u v F (i + 1) j := by
  obtain ⟨h1, h2, h3, hM⟩ := h.ym
  obtain ⟨g, hA, hg, hc, hfz, -, hs⟩ := hM.cell (j := i) (by rw [incl_length]; exact hi)
  simp only [incl_getD] at hc
  obtain ⟨hM', hF'⟩ := hs (F.y.pix.getD i 0 + 1)
  rw [incl_set _ _ hi] at hM'
  have hog : (Value.slice y.A y.n y.c).ownBlock = some g := by rw [hA]; rfl
  refine ⟨g, hA, hc, hfz, ⟨h.bk.fr hF' (by simp; exact fun e => h.yq g hog e.symm), ⟨h1, h2, by rw [h3]; simp, hM'⟩, ⟨h.um.1, h.um.2.1, h.um.2.2.1, h.um.2.2.2.other hF' hg fun k hk e => h.yu g hog (by rw [hk, e])⟩, ⟨h.vm.1, h.vm.2.1, h.vm.2.2.1, h.vm.2.2.2.other hF' hg fun k hk e => h.yv g hog (by rw [hk, e])⟩, h.yu, h.yv, h.uv, h.yq, h.vq⟩⟩
theorem Cop.stepV (h : Cop w0 w q y u v F i j) (hj : j < F.v.pix.length) :
    ∃ g, v.A = some ⟨g, 0, none⟩ ∧ w.cell? ⟨g, j, none⟩ = some (.int .u8 ((F.v.pix.getD j 0).toNat : Int)) ∧ w.frozen? ⟨g, j, none⟩ = false ∧
      Cop w0 (w.setCell ⟨g, j, none⟩ (.int .u8 ((F.v.pix.getD j 0 + 1).toNat : Int))) q y u v F i (j + 1) := by
  obtain ⟨h1, h2, h3, hM⟩ := h.vm
  obtain ⟨g, hA, hg, hc, hfz, -, hs⟩ := hM.cell (j := j) (by rw [incl_length]; exact hj)
  simp only [incl_getD] at hc
  obtain ⟨hM', hF'⟩ := hs (F.v.pix.getD j 0 + 1)
  rw [incl_set _ _ hj] at hM'
  have hog : (Value.slice v.A v.n v.c).ownBlock = some g := by rw [hA]; rfl
  refine ⟨g, hA, hc, hfz, ⟨h.bk.fr hF' (by simp; exact fun e => h.vq g hog e.symm), ⟨h.ym.1, h.ym.2.1, h.ym.2.2.1, h.ym.2.2.2.other hF' hg fun k hk e => h.yv k hk (by rw [hog, e])⟩, ⟨h.um.1, h.um.2.1, h.um.2.2.1, h.um.2.2.2.other hF' hg fun k hk e => h.uv k hk (by rw [hog, e])⟩, ⟨h1, h2, by rw [h3]; simp, hM'⟩, h.yu, h.yv, h.uv, h.yq, h.vq⟩⟩
end

/-! A frame's cells, read whole, as an operation of a region. -/
theorem exec_loadF {a : Act} {o : Oper} {x : Operand} {g : Nat} {cs : Array Value} {W : World} (hB : Blk W g 30 cs) (hs : cs.size = 9) (ho : o.op = .load 30 x) (hx : a.eval x = .pointer (some ⟨g, 0, none⟩)) :
    (execOp a.eval o).run Try.prog W = .ok (.value (.agg cs)) W := by
  have hi : (Try.prog.info? 30).map (·.size) = some cs.size := by
    rw [hs]
    kernel_rfl
  have h := run_loadVar_row (P := Try.prog) W g 30 30 cs (0, 0) _ hB.here Try.underlying30 rfl hi
  unfold execOp
  simp only [ho, hx, Instr.loadAt, Instr.sureAddr, Sem.run_bind, Sem.run_pure, Result.andThen_ok, h]
theorem cells_size (y u v : FrAt) : (FrAt.cells y u v).size = 9 := rfl
end Go.Proofs.Ytlcjlgdcleenlaa

/-
  Contracts of the landed planes: bytes.Clone, copied, bytes.Equal, alike. Conditions: the samples are not too many.
-/
namespace Go.Proofs.Ytlcjlgdcleenlaa
open Go.RowKit

attribute [local go_sem ↓] cv_rule

theorem pclone_any (A : Option Addr) (c : Nat) (xs : List UInt8) (w : World) (hs : Src w (.slice A xs.length c) (xs.map B8)) (hn : xs.length ≤ 1000000000000) :
    Calls Try.prog 54 #[.slice A xs.length c] w fun e w' => ∃ B d, e = .returned (.slice B xs.length d) ∧ Mine w w' (.slice B xs.length d) xs := by
  obtain ⟨n, hnn⟩ : ∃ n, n = xs.length := ⟨_, rfl⟩
  rw [← hnn] at hs hn ⊢
  have HS := Lib.hid hs
  have Hn := Lib.hid hnn
  clear hs hnn
  have q : ∀ (w : World) (a : Option Addr) (n c n' c' : Nat), (binOp .eql 23 (.slice a n c) (.slice none n' c')).run Try.prog w = .ok (.bool a.isNone) w := fun w a n c n' c' => Lib.run_eql_slice_nil w _ _ a n c n' c' Try.underlying23
  cases A with
  | none =>
    have h0 : n = 0 ∧ c = 0 ∧ xs = [] := by
      rcases HS.out with ⟨e, h⟩ | ⟨ad, c', e, -⟩
      · injection e with e1 e2 e3
        exact ⟨e2, e3, by simpa using h⟩
      · cases e
    obtain ⟨rfl, rfl, rfl⟩ := h0
    go_enter Try.func54, Try.ntmps54
    go_wp2_with fail
    go_ret
    exact ⟨none, 0, rfl, Mine.nil w⟩
  | some ad =>
    go_enter Try.func54, Try.ntmps54
    go_wp2_with (at_builtin; refine wp_append_u8 _ _ (.slice (some ⟨w.heap.size, 0, none⟩) 0 0) [] (.slice (some ad) n c) xs rfl rfl rfl rfl (Own.lit w 5 #[] 0 rfl (by simp [maxLen])) (HS.out.fr0 ((Fr.refl _ _).alloc _)) (by simp; have := Hn.out; omega) ?_)
    intro vo w1 hO hG
    have hM := Mine.copied (w0 := w) (w := w) hO hG (Fr.refl _ _)
    obtain ⟨B, d, rfl⟩ := hM.slice
    rw [← Hn.out] at hM ⊢
    have HM := Lib.hid hM
    clear hM hO hG
    go_wp2_with fail
    go_ret
    exact ⟨B, d, rfl, HM.out⟩

theorem equal_any (A A' : Option Addr) (n c n' c' : Nat) (px py : List UInt8) (w : World) (hs : Src w (.slice A n c) (px.map B8)) (hs' : Src w (.slice A' n' c') (py.map B8)) :
    Calls Try.prog 56 #[.slice A n c, .slice A' n' c'] w fun e w' => e = .returned (.bool (decide (px = py))) ∧ w' = w := by
  have s1 := run_cv hs
  have s2 := run_cv hs'
  clear hs hs'
  go_enter Try.func56, Try.ntmps56
  go_wp2_with fail
  go_ret
  refine ⟨?_, rfl⟩
  show Ending.returned (.bool ((strOf px).toList == (strOf py).toList)) = _
  rw [strOf_beq]

set_option maxRecDepth 20000 in
theorem alike_any (W H : Int) (A : Option Addr) (n c : Nat) (px : List UInt8) (W' H' : Int) (A' : Option Addr) (n' c' : Nat) (py : List UInt8) (w : World)
    (hs : Src w (.slice A n c) (px.map B8)) (hs' : Src w (.slice A' n' c') (py.map B8)) :
    Calls Try.prog 52 #[plV W H A n c, plV W' H' A' n' c'] w fun e w' => e = .returned (.bool (samePl ⟨W, H, px⟩ ⟨W', H', py⟩)) ∧ Fr [] w w' := by
  have hT := box2 w #[.int .i64 W, .int .i64 H, .slice A n c] #[.int .i64 W', .int .i64 H', .slice A' n' c']
  have HT := Lib.hid hT
  have HE := Lib.hid (fun W1 (hf : Fr [] w W1) => equal_any A A' n c n' c' px py W1 (hs.fr0 hf) (hs'.fr0 hf))
  clear hT hs hs'
  unfold plV
  obtain ⟨R, hR⟩ : ∃ R, R = samePl ⟨W, H, px⟩ ⟨W', H', py⟩ := ⟨_, rfl⟩
  rw [← hR]
  have hcase : (W ≠ W' ∧ R = false) ∨ (W = W' ∧ H ≠ H' ∧ R = false) ∨ (W = W' ∧ H = H' ∧ R = decide (px = py)) := by
    unfold samePl at hR
    simp only at hR
    by_cases h1 : W = W'
    · by_cases h2 : H = H'
      · exact .inr (.inr ⟨h1, h2, by rw [hR]; simp [h1, h2]⟩)
      · exact .inr (.inl ⟨h1, h2, by rw [hR]; simp [h2]⟩)
    · exact .inl ⟨h1, by rw [hR]; simp [h1]⟩
  clear hR
  rcases hcase with ⟨h1, rfl⟩ | ⟨rfl, h2, rfl⟩ | ⟨rfl, rfl, hR⟩
  case' inl =>
    have t1 : (W == W') = false := by simpa using h1
    clear h1
  case' inr.inl =>
    have t1 : (W == W) = true := by simp
    have t2 : (H == H') = false := by simpa using h2
    clear h2
  case' inr.inr =>
    have t1 : (W == W) = true := by simp
    have t2 : (H == H) = true := by simp
    have HRr := Lib.hid hR
    clear hR
  all_goals
    go_enter Try.func52, Try.ntmps52
    go_upto_region 1 with fail
    generalize World.alloc (World.alloc w _) _ = w1 at HT ⊢
    obtain ⟨g, hg⟩ : ∃ g, g = w.heap.size := ⟨_, rfl⟩
    rw [← hg] at HT ⊢
    obtain ⟨r, hr⟩ : ∃ r, r = g + 1 := ⟨_, rfl⟩
    rw [← hr] at HT ⊢
    clear hg hr
    have c0 := HT.out.bg.cell 0
    have c1 := HT.out.bg.cell 1
    have c2 := HT.out.bg.cell 2
    have hlg := HT.out.bg.lt
    have d0 := HT.out.br.cell 0
    have d1 := HT.out.br.cell 1
    have d2 := HT.out.br.cell 2
    have hlr := HT.out.br.lt
    simp at c0 c1 c2 d0 d1 d2
    go_wp2_with fail
  all_goals try (go_ret; exact ⟨rfl, HT.out.fr⟩)
  refine (HE.out _ HT.out.fr).mono ?_
  rintro e w2 ⟨rfl, rfl⟩
  go_wp2_with fail
  go_ret
  exact ⟨by rw [HRr.out]; rfl, HT.out.fr⟩

set_option maxRecDepth 20000 in
set_option maxHeartbeats 4000000 in
theorem pcopied_any (W H : Int) (A : Option Addr) (c : Nat) (pix : List UInt8) (w : World) (hs : Src w (.slice A pix.length c) (pix.map B8)) (hn : pix.length ≤ 1000000000000) :
    Calls Try.prog 41 #[plV W H A pix.length c] w fun e w' => ∃ B d, e = .returned (plV W H B pix.length d) ∧ Mine w w' (.slice B pix.length d) pix := by
  have HCl := Lib.hid fun w' (hf : Fr [] w w') => pclone_any A c pix w' (hs.fr0 hf) hn
  have hT := two6 w #[.int .i64 W, .int .i64 H, .slice A pix.length c]
  obtain ⟨n, hnn⟩ : ∃ n, n = pix.length := ⟨_, rfl⟩
  rw [← hnn] at hT HCl ⊢
  have HT := Lib.hid hT
  clear hs hn hnn hT
  unfold plV
  go_enter Try.func41, Try.ntmps41
  go_upto_region 1 with fail
  generalize World.alloc (World.alloc w _) _ = w1 at HT ⊢
  obtain ⟨g, hg⟩ : ∃ g, g = w.heap.size := ⟨_, rfl⟩
  rw [← hg] at HT ⊢
  obtain ⟨r, hr⟩ : ∃ r, r = g + 1 := ⟨_, rfl⟩
  rw [← hr] at HT ⊢
  clear hg hr
  have HT1 := Lib.hid (HT.out.fr0 (Fr.refl [] w1).drew)
  clear HT
  have c0 := HT1.out.bg.cell 0
  have c1 := HT1.out.bg.cell 1
  have c2 := HT1.out.bg.cell 2
  simp at c0 c1 c2
  refine wp_region_held_drew (S := fun W' => W'.cell? ⟨g, 0, none⟩ = some (.int .i64 W) ∧ W'.cell? ⟨g, 1, none⟩ = some (.int .i64 H) ∧ W'.cell? ⟨g, 2, none⟩ = some (.slice A n c)) (by kernel_rfl) ?_ (fun hHeld => ?_)
  · (first | exact ⟨p0, p1, p2⟩ | exact ⟨k0, k1, k2⟩ | exact ⟨c0, c1, c2⟩)
  refine wpAnyH_pick 0 (v := ?_) rfl (by kernel_rfl) (by kernel_rfl) (by kernel_rfl) (fun _ _ _ h => h) (by assumption) (by rfl) ?_ ?_
  rotate_left
  · (intro w hSw; (try dsimp only at hSw); go_simp) <;> (with_reducible rfl)
  (try simp only [Act.put, List.setIfInBounds_toArray, List.set_cons_zero, List.set_cons_succ])
  refine wpAnyH_pick 1 (v := ?_) rfl (by kernel_rfl) (by kernel_rfl) (by kernel_rfl) (fun _ _ _ h => h) (by assumption) (by rfl) ?_ ?_
  rotate_left
  · (intro w hSw; (try dsimp only at hSw); go_simp) <;> (with_reducible rfl)
  (try simp only [Act.put, List.setIfInBounds_toArray, List.set_cons_zero, List.set_cons_succ])
  refine wpAnyH_pick 2 (v := ?_) rfl (by kernel_rfl) (by kernel_rfl) (by kernel_rfl) (fun _ _ _ h => h) (by assumption) (by rfl) ?_ ?_
  rotate_left
  · (intro w hSw; (try dsimp only at hSw); go_simp) <;> (with_reducible rfl)
  (try simp only [Act.put, List.setIfInBounds_toArray, List.set_cons_zero, List.set_cons_succ])
  refine wpAnyH_pick 3 (v := ?_) rfl (by kernel_rfl) (by kernel_rfl) (by kernel_rfl) (fun _ _ _ h => h) (by assumption) (by rfl) ?_ ?_
  rotate_left
  · (intro w hSw; (try dsimp only at hSw); go_simp) <;> (with_reducible rfl)
  (try simp only [Act.put, List.setIfInBounds_toArray, List.set_cons_zero, List.set_cons_succ])
  refine wpAnyH_pick 4 (v := ?_) rfl (by kernel_rfl) (by kernel_rfl) (by kernel_rfl) (fun _ _ _ h => h) (by assumption) (by rfl) ?_ ?_
  rotate_left
  · (intro w hSw; (try dsimp only at hSw); go_simp) <;> (with_reducible rfl)
  (try simp only [Act.put, List.setIfInBounds_toArray, List.set_cons_zero, List.set_cons_succ])
  refine wpAnyH_pick 5 (v := ?_) rfl (by kernel_rfl) (by kernel_rfl) (by kernel_rfl) (fun _ _ _ h => h) (by assumption) (by rfl) ?_ ?_
  rotate_left
  · (intro w hSw; (try dsimp only at hSw); go_simp) <;> (with_reducible rfl)
  (try simp only [Act.put, List.setIfInBounds_toArray, List.set_cons_zero, List.set_cons_succ])
  refine wpAnyH_ready (rs := [6]) (by kernel_rfl) (by simp) ?_
  refine AllReadyH_pick rfl (fun K hK => ?_) (AllReadyH.nil)
  go_simp
  refine (HCl.out _ HT1.out.fr).mono ?_
  rintro e w2 ⟨B, d, rfl, hM⟩
  have hT2 := HT1.out.fr0 hM.fr
  have hne : ∀ k, (Value.slice B n d).ownBlock = some k → k ≠ g ∧ k ≠ r := fun k hk => by
    have h1 := hM.new k hk
    have h2 := HT1.out.bg.lt
    have h3 := HT1.out.br.lt
    omega
  have k0 := hT2.bg.cell 0
  have k1 := hT2.bg.cell 1
  have k2 := hT2.bg.cell 2
  simp at k0 k1 k2
  have HT2 := Lib.hid hT2; have HM := Lib.hid hM; have Hne := Lib.hid hne
  clear hT2 hM hne
  go_wp2_with fail
  refine hK.out _ _ ?_ (fun hHeld => ?_)
  · (first | exact ⟨p0, p1, p2⟩ | exact ⟨k0, k1, k2⟩ | exact ⟨c0, c1, c2⟩)
  clear hK K
  (try simp only [Act.put, List.setIfInBounds_toArray, List.set_cons_zero, List.set_cons_succ])
  refine wpAnyH_pick 7 (v := ?_) rfl (by kernel_rfl) (by kernel_rfl) (by kernel_rfl) (fun _ _ _ h => h) (by assumption) (by rfl) ?_ ?_
  rotate_left
  · (intro w hSw; (try dsimp only at hSw); go_simp) <;> (with_reducible rfl)
  (try simp only [Act.put, List.setIfInBounds_toArray, List.set_cons_zero, List.set_cons_succ])
  refine wpAnyH_ready (rs := [8]) (by kernel_rfl) (by simp) ?_
  refine AllReadyH_pick rfl (fun K hK => ?_) (AllReadyH.nil)
  have d0 := HT2.out.br.cell 0
  have d1 := HT2.out.br.cell 1
  have d2 := HT2.out.br.cell 2
  have f0 := HT2.out.br.frozen 0
  have f1 := HT2.out.br.frozen 1
  have f2 := HT2.out.br.frozen 2
  have hlr := HT2.out.br.lt
  simp at d0 d1 d2
  have hb5 := ((HT2.out.br.set_ 0 (.int .i64 W)).set_ 1 (.int .i64 H)).set_ 2 (.slice B n d)
  have hf5 : Fr [r] w2 (((w2.setCell ⟨r, 0, none⟩ (.int .i64 W)).setCell ⟨r, 1, none⟩ (.int .i64 H)).setCell ⟨r, 2, none⟩ (.slice B n d)) := (((Fr.refl [r] w2).setCell (.inl (by simp)) _).setCell (.inl (by simp)) _).setCell (.inl (by simp)) _
  have hbg := HT2.out.bg.fr hf5 (by simp; have := HT2.out.er; omega)
  have p0 : ((((w2.setCell ⟨r, 0, none⟩ (.int .i64 W)).setCell ⟨r, 1, none⟩ (.int .i64 H)).setCell ⟨r, 2, none⟩ (.slice B n d))).cell? ⟨g, 0, none⟩ = some (.int .i64 W) := hbg.cell 0
  have p1 : ((((w2.setCell ⟨r, 0, none⟩ (.int .i64 W)).setCell ⟨r, 1, none⟩ (.int .i64 H)).setCell ⟨r, 2, none⟩ (.slice B n d))).cell? ⟨g, 1, none⟩ = some (.int .i64 H) := hbg.cell 1
  have p2 : ((((w2.setCell ⟨r, 0, none⟩ (.int .i64 W)).setCell ⟨r, 1, none⟩ (.int .i64 H)).setCell ⟨r, 2, none⟩ (.slice B n d))).cell? ⟨g, 2, none⟩ = some (.slice A n c) := hbg.cell 2
  have HB5 := Lib.hid hb5; have HF5 := Lib.hid hf5
  clear hb5 hf5 hbg
  go_simp
  refine hK.out _ _ ?_ (fun hHeld => ?_)
  · (first | exact ⟨p0, p1, p2⟩ | exact ⟨k0, k1, k2⟩ | exact ⟨c0, c1, c2⟩)
  clear hK K
  (try simp only [Act.put, List.setIfInBounds_toArray, List.set_cons_zero, List.set_cons_succ])
  refine wpAnyH_done (by kernel_rfl) ?_ _
  skip
  go_wp2_with fail
  refine bodyPost_ret (v := plV W H B n d) (results_cell_row Try.results41 _ _ r 25 _ (0, 0) _ rfl HB5.out.here Try.underlying25 rfl (by kernel_rfl)) rfl ⟨B, d, rfl, ?_⟩
  have hwr : w.heap.size ≤ r := by have h1 := HT2.out.er; have h2 := HT2.out.eg; omega
  have hM2 : Mine w w2 (.slice B n d) pix := ⟨HM.out.own, HT1.out.fr.trans HM.out.fr (by simp), fun k hk => Nat.le_trans HT1.out.fr.size (HM.out.new k hk)⟩
  exact hM2.other HF5.out hwr (fun k hk => (Hne.out k hk).2)
end Go.Proofs.Ytlcjlgdcleenlaa

/-
  Contracts of the landed planes: Far. Conditions: the samples are not too many.
-/
namespace Go.Proofs.Ytlcjlgdcleenlaa
open Go.RowKit

set_option maxRecDepth 20000 in
set_option maxHeartbeats 4000000 in
theorem pfar_any (W H : Int) (A : Option Addr) (c : Nat) (px : List UInt8) (W' H' : Int) (A' : Option Addr) (c' : Nat) (py : List UInt8) (w : World)
    (hs : Src w (.slice A px.length c) (px.map B8)) (hs' : Src w (.slice A' py.length c') (py.map B8)) (hn : px.length ≤ 1000000000000) (hn' : py.length ≤ 1000000000000) :
    Calls Try.prog 23 #[plV W H A px.length c, plV W' H' A' py.length c'] w fun e w' => e = .returned (.tuple #[.int .i64 (Pl.far ⟨W, H, px⟩ ⟨W', H', py⟩).1, .int .i64 (Pl.far ⟨W, H, px⟩ ⟨W', H', py⟩).2]) ∧ Fr [] w w' := by
  have HR := Lib.hid fun w => right_any W H A c px w hn
  have HR' := Lib.hid fun w => right_any W' H' A' c' py w hn'
  obtain ⟨R, hR⟩ : ∃ R, R = Pl.ok ⟨W, H, px⟩ := ⟨_, rfl⟩
  obtain ⟨R', hR'⟩ : ∃ R', R' = Pl.ok ⟨W', H', py⟩ := ⟨_, rfl⟩
  rw [← hR] at HR
  rw [← hR'] at HR'
  obtain ⟨F, hF⟩ : ∃ F, F = Pl.far ⟨W, H, px⟩ ⟨W', H', py⟩ := ⟨_, rfl⟩
  rw [← hF]
  have hcase : (R = false ∧ F = (0, 61)) ∨ (R = true ∧ R' = false ∧ F = (0, 61)) ∨ (R = true ∧ R' = true ∧ W ≠ W' ∧ F = (0, 61)) ∨ (R = true ∧ R' = true ∧ W = W' ∧ H ≠ H' ∧ F = (0, 61)) ∨ (R = true ∧ R' = true ∧ W = W' ∧ H = H' ∧ F = ((gaps px py : Int), 0)) := by
    by_cases h1 : R = true
    · by_cases h2 : R' = true
      · by_cases h3 : W = W'
        · by_cases h4 : H = H'
          · exact .inr (.inr (.inr (.inr ⟨h1, h2, h3, h4, by rw [hF]; exact far_ok ⟨by rw [← hR, h1], by rw [← hR', h2], h3, h4⟩⟩)))
          · exact .inr (.inr (.inr (.inl ⟨h1, h2, h3, h4, by rw [hF]; exact far_not fun k => h4 k.2.2.2⟩)))
        · exact .inr (.inr (.inl ⟨h1, h2, h3, by rw [hF]; exact far_not fun k => h3 k.2.2.1⟩))
      · exact .inr (.inl ⟨h1, by simpa using h2, by rw [hF]; exact far_not fun k => h2 (by rw [hR']; exact k.2.1)⟩)
    · exact .inl ⟨by simpa using h1, by rw [hF]; exact far_not fun k => h1 (by rw [hR]; exact k.1)⟩
  have hlen : R = true → R' = true → W = W' → H = H' → px.length = py.length ∧ px.length ≤ 16777216 := by
    rintro h1 h2 rfl rfl
    have k1 := (Pl.ok_iff.1 (hR.symm.trans h1))
    have k2 := (Pl.ok_iff.1 (hR'.symm.trans h2))
    simp only at k1 k2
    obtain ⟨⟨a1, a2⟩, ⟨b1, b2⟩, hl⟩ := k1
    have hl2 := k2.2.2
    have : W * H ≤ 4096 * 4096 := Int.mul_le_mul a2 b2 (by omega) (by omega)
    omega
  have hT := box2 w #[.int .i64 W, .int .i64 H, .slice A px.length c] #[.int .i64 W', .int .i64 H', .slice A' py.length c']
  have HT := Lib.hid hT; have Hlen := Lib.hid hlen; have HS := Lib.hid hs; have HS' := Lib.hid hs'
  obtain ⟨n, hnn⟩ : ∃ n, n = px.length := ⟨_, rfl⟩
  obtain ⟨n', hnn'⟩ : ∃ n', n' = py.length := ⟨_, rfl⟩
  have Hnn := Lib.hid hnn; have Hnn' := Lib.hid hnn'
  rw [← hnn] at HR HT Hlen HS ⊢
  rw [← hnn'] at HR' HT Hlen HS' ⊢
  clear hR hR' hF hT hlen hs hs' hnn hnn' hn hn'
  unfold plV at HR HR' ⊢
  rcases hcase with ⟨rfl, rfl⟩ | ⟨rfl, rfl, rfl⟩ | ⟨rfl, rfl, h3, rfl⟩ | ⟨rfl, rfl, rfl, h4, rfl⟩ | ⟨rfl, rfl, rfl, rfl, rfl⟩
  case' inr.inr.inl =>
    have t3 : (W != W') = true := by simpa using h3
    clear h3
  case' inr.inr.inr.inl =>
    have t3 : (W != W) = false := by simp
    have t4 : (H != H') = true := by simpa using h4
    clear h4
  case' inr.inr.inr.inr =>
    have t3 : (W != W) = false := by simp
    have t4 : (H != H) = false := by simp
  all_goals
    go_enter Try.func23, Try.ntmps23
    go_upto_region 1 with fail
    generalize World.alloc (World.alloc w _) _ = w1 at HT ⊢
    obtain ⟨g, hg⟩ : ∃ g, g = w.heap.size := ⟨_, rfl⟩
    rw [← hg] at HT ⊢
    obtain ⟨r, hr⟩ : ∃ r, r = g + 1 := ⟨_, rfl⟩
    rw [← hr] at HT ⊢
    clear hg hr
    have c0 := HT.out.bg.cell 0
    have c1 := HT.out.bg.cell 1
    have c2 := HT.out.bg.cell 2
    have hlg := HT.out.bg.lt
    simp at c0 c1 c2
    go_wp2_with fail
    refine (HR.out _).mono ?_
    rintro e w2 ⟨rfl, hF2⟩
    have HT2 := Lib.hid (HT.out.fr0 hF2)
    clear hF2 c0 c1 c2 hlg HT
    have c0 := HT2.out.br.cell 0
    have c1 := HT2.out.br.cell 1
    have c2 := HT2.out.br.cell 2
    have hlg := HT2.out.br.lt
    simp at c0 c1 c2
    go_wp2_with fail
  all_goals try (go_ret2; exact ⟨rfl, HT2.out.fr⟩)
  all_goals
    refine (HR'.out _).mono ?_
    rintro e w3 ⟨rfl, hF3⟩
    have HT3 := Lib.hid (HT2.out.fr0 hF3)
    clear hF3 c0 c1 c2 hlg HT2
    have c0 := HT3.out.bg.cell 0
    have c1 := HT3.out.bg.cell 1
    have c2 := HT3.out.bg.cell 2
    have hlg := HT3.out.bg.lt
    have d0 := HT3.out.br.cell 0
    have d1 := HT3.out.br.cell 1
    have hlr := HT3.out.br.lt
    simp at c0 c1 c2 d0 d1
    go_wp2_with fail
  all_goals try (go_ret2; exact ⟨rfl, HT3.out.fr⟩)
  obtain ⟨hl1, hl2⟩ := Hlen.out trivial trivial trivial trivial
  obtain rfl : n' = n := hl1.symm
  clear c0 c1 c2 d0 d1 hlg hlr hl1 Hlen HR HR'
  go_loopw [6, 34] (fun s6 s34 wr => ∃ i : Nat, i ≤ n' ∧ s34 = .int .i64 (i : Int) ∧ s6 = .int .i64 (gaps (px.take i) (py.take i) : Int) ∧ Box2 w wr g r #[.int .i64 W, .int .i64 H, .slice A n' c] #[.int .i64 W, .int .i64 H, .slice A' n' c']) (fun _ s34 _ => n' - (intOf s34).toNat)
  case atStart => exact ⟨0, by omega, rfl, rfl, HT3.out⟩
  case round =>
    obtain ⟨i, hi, rfl, rfl, hT⟩ := hrel
    by_cases hlt : i < n'
    · have eg : decide (i < n') = true := by simpa using hlt
      obtain ⟨u, hu⟩ : ∃ u, px[i]? = some u := ⟨_, List.getElem?_eq_getElem (by have := Hnn.out; omega)⟩
      obtain ⟨v, hv⟩ : ∃ v, py[i]? = some v := ⟨_, List.getElem?_eq_getElem (by have := Hnn'.out; omega)⟩
      have hstep := gaps_snoc px py i hu hv
      obtain ⟨S, hS⟩ : ∃ S, S = gaps (px.take i) (py.take i) := ⟨_, rfl⟩
      have hSl : S ≤ 4294967296 := by
        have := gaps_le (px.take i) (py.take i)
        rw [← hS] at this
        simp at this
        omega
      rw [← hS] at hstep ⊢
      have hgl := gap_le u v
      obtain ⟨G, hG⟩ : ∃ G, G = gap u v := ⟨_, rfl⟩
      rw [← hG] at hstep hgl
      have hul := u.toNat_lt
      have hvl := v.toNat_lt
      obtain ⟨d, hd⟩ : ∃ d : Int, d = (u.toNat : Int) - (v.toNat : Int) := ⟨_, rfl⟩
      have ed : (u.toNat : Int) - (v.toNat : Int) = d := hd.symm
      have hGd : (G : Int) = max d (-d) := by rw [hG, hd]; unfold gap; omega
      have hd1 : -255 ≤ d := by omega
      have hd2 : d ≤ 255 := by omega
      have vu : IntKind.i64.wrap (u.toNat : Int) = (u.toNat : Int) := IntWalk.i64_in _ (by omega)
      have vv : IntKind.i64.wrap (v.toNat : Int) = (v.toNat : Int) := IntWalk.i64_in _ (by omega)
      have vd : IntKind.i64.wrap d = d := IntWalk.i64_in _ (by omega)
      have vnd : IntKind.i64.wrap (-d) = -d := IntWalk.i64_in _ (by omega)
      obtain ⟨ad, rfl, k1'⟩ := (HS.out.fr0 hT.fr).cellAt hu
      obtain ⟨ad', rfl, k2'⟩ := (HS'.out.fr0 hT.fr).cellAt hv
      have k1 : wr.cell? (ad.add i) = some (.int .u8 (u.toNat : Int)) := k1'
      have k2 : wr.cell? (ad'.add i) = some (.int .u8 (v.toNat : Int)) := k2'
      clear k1' k2'
      have c2 := hT.bg.cell 2
      have d2 := hT.br.cell 2
      have hlg := hT.bg.lt
      have hlr := hT.br.lt
      simp at c2 d2
      have HTr := Lib.hid hT; have Hstep := Lib.hid hstep; have HGd := Lib.hid hGd
      clear hT hstep hGd hS hG hd hu hv HT3
      go_upto_region 7 with fail
      go_quiet (fail)
      have hT2 := HTr.out.fr0 ((Fr.refl [] wr).drewN nq)
      have HT2 := Lib.hid hT2
      clear hT2
      go_wp2_with fail
      all_goals
        refine ⟨⟨i + 1, by omega, by simp, ?_, HT2.out⟩, by simp [intOf]; omega⟩
        rw [Hstep.out]
        have := HGd.out
        first
          | (refine congrArg (fun z => Value.int .i64 z) ?_; omega)
          | (exfalso; simp_all <;> omega)
    · have eg : decide (i < n') = false := by simpa using hlt
      have hin : i = n' := by omega
      have hT2 := hT
      have c2 := hT.bg.cell 2
      have hlg := hT.bg.lt
      simp at c2
      have HT2 := Lib.hid hT2
      obtain ⟨S, hS⟩ : ∃ S, S = gaps (px.take i) (py.take i) := ⟨_, rfl⟩
      have hSe : S = gaps px py := by rw [hS, hin, List.take_of_length_le (by have := Hnn.out; omega), List.take_of_length_le (by have := Hnn'.out; omega)]
      rw [← hS]
      have HSe := Lib.hid hSe
      clear hT hT2 hin hS hSe HT3
      go_wp2_with fail
      go_ret2
      exact ⟨by rw [← HSe.out]; rfl, HT2.out.fr⟩
end Go.Proofs.Ytlcjlgdcleenlaa

/-
  Contracts of the landed planes: Blank, Same. No condition.
-/
namespace Go.Proofs.Ytlcjlgdcleenlaa
open Go.RowKit

theorem filled_at (W H : Int) (v : UInt8) (w : World) (hW : sideOk W = true) (hH : sideOk H = true) :
    Calls Try.prog 36 #[.int .i64 W, .int .i64 H, .int .u8 (v.toNat : Int)] w fun e w' => ∃ a : FrAt, e = .returned (.agg #[.int .i64 a.W, .int .i64 a.H, .slice a.A a.n a.c]) ∧ a.has w' (plNew W H v).1 ∧ (∀ k, (Value.slice a.A a.n a.c).ownBlock = some k → w.heap.size ≤ k) ∧ Fr [] w w' :=
  (filled_mine W H v w hW hH).mono fun e w' ⟨x, M, he, hM⟩ => by
    have hf := hM.fr
    obtain ⟨a, ha, hh, hn⟩ := hM.at_
    exact ⟨a, by rw [he, ha], hh, hn, hf⟩

set_option maxRecDepth 20000 in
set_option maxHeartbeats 4000000 in
theorem pblank_bad (W H : Int) (v : UInt8) (w : World) (h : (sideOk W && sideOk H && decide (W % 16 = 0) && decide (H % 16 = 0)) = false) :
    Calls Try.prog 13 #[.int .i64 W, .int .i64 H, .int .u8 (v.toNat : Int)] w (FrPost w (frBlank W H v)) := by
  have hb : frBlank W H v = (frNone, 61) := by
    unfold frBlank
    rw [if_neg]
    intro k
    simp only [Bool.and_eq_true, decide_eq_true_eq] at k
    rw [k.1.2, k.2, k.1.1.1, k.1.1.2] at h
    simp at h
  rw [hb]
  have hend := fun w' (hf : Fr [] w w') => frPost_none (w := w) (w' := w') rfl hf
  obtain ⟨L, hL⟩ : ∃ L, L = FrPost w (frNone, 61) := ⟨_, rfl⟩
  rw [← hL] at hend ⊢
  have Hend := Lib.hid hend
  have HA := Lib.hid fun w => areSides_any W H w
  rw [h] at HA
  clear hb hend hL h
  go_enter Try.func13, Try.ntmps13
  go_upto_region 1 with fail
  have HR := Lib.hid (show ResF w (w.alloc (.cells #[.int .i64 0, .int .i64 0, .slice none 0 0, .int .i64 0, .int .i64 0, .slice none 0 0, .int .i64 0, .int .i64 0, .slice none 0 0] 30)) w.heap.size from ⟨(Fr.refl _ _).alloc _, Nat.le_refl _, Blk.new w 30 zeroF⟩)
  generalize w.alloc (.cells #[.int .i64 0, .int .i64 0, .slice none 0 0, .int .i64 0, .int .i64 0, .slice none 0 0, .int .i64 0, .int .i64 0, .slice none 0 0] 30) = w1 at HR ⊢
  obtain ⟨r, hr⟩ : ∃ r, r = w.heap.size := ⟨_, rfl⟩
  rw [← hr] at HR ⊢
  clear hr
  go_wp2_with fail
  refine (HA.out _).mono ?_
  rintro e w2 ⟨rfl, rfl⟩
  have d0 := HR.out.br.cell 0
  have d1 := HR.out.br.cell 1
  have d2 := HR.out.br.cell 2
  have d3 := HR.out.br.cell 3
  have d4 := HR.out.br.cell 4
  have d5 := HR.out.br.cell 5
  have d6 := HR.out.br.cell 6
  have d7 := HR.out.br.cell 7
  have d8 := HR.out.br.cell 8
  have f0 := HR.out.br.frozen 0
  have f1 := HR.out.br.frozen 1
  have f2 := HR.out.br.frozen 2
  have f3 := HR.out.br.frozen 3
  have f4 := HR.out.br.frozen 4
  have f5 := HR.out.br.frozen 5
  have f6 := HR.out.br.frozen 6
  have f7 := HR.out.br.frozen 7
  have f8 := HR.out.br.frozen 8
  have hlr := HR.out.br.lt
  simp [zeroF] at d0 d1 d2 d3 d4 d5 d6 d7 d8
  obtain ⟨hb5, hf5, -⟩ := HR.out.stored (.int .i64 0) (.int .i64 0) (.slice none 0 0) (.int .i64 0) (.int .i64 0) (.slice none 0 0) (.int .i64 0) (.int .i64 0) (.slice none 0 0)
  unfold store9 at hb5 hf5
  have HB5 := Lib.hid hb5; have HF5 := Lib.hid hf5
  clear hb5 hf5
  go_wp2_with fail
  refine bodyPost_ret (results_row_tmp Try.results13 _ _ r 30 _ (0, 0) _ rfl HB5.out.here Try.underlying30 rfl (by kernel_rfl)) rfl ?_
  exact Hend.out _ HF5.out

set_option maxRecDepth 20000 in
set_option maxHeartbeats 8000000 in
theorem pblank_good (W H : Nat) (v : UInt8) (w : World) (h1 : W % 16 = 0) (h2 : H % 16 = 0) (h3 : sideOk (W : Int) = true) (h4 : sideOk (H : Int) = true) :
    Calls Try.prog 13 #[.int .i64 (W : Int), .int .i64 (H : Int), .int .u8 (v.toNat : Int)] w (FrPost w (frBlank W H v)) := by
  have hb : frBlank W H v = (⟨(plNew W H v).1, (plNew ((W : Int) / 2) ((H : Int) / 2) v).1, (plNew ((W : Int) / 2) ((H : Int) / 2) v).1⟩, 0) := by
    unfold frBlank
    rw [if_pos]
    simp only [Bool.and_eq_true, decide_eq_true_eq]
    exact ⟨⟨⟨by omega, by omega⟩, h3⟩, h4⟩
  obtain ⟨q1, q2⟩ := sideOk_iff.1 h3
  obtain ⟨q3, q4⟩ := sideOk_iff.1 h4
  rw [hb]
  obtain ⟨P, hP⟩ : ∃ P, P = (plNew W H v).1 := ⟨_, rfl⟩
  obtain ⟨Q, hQ⟩ : ∃ Q, Q = (plNew ((W : Int) / 2) ((H : Int) / 2) v).1 := ⟨_, rfl⟩
  have HN1 := Lib.hid fun w => filled_at W H v w h3 h4
  have HN2 := Lib.hid fun w => filled_at ((W : Int) / 2) ((H : Int) / 2) v w (by rw [sideOk_iff]; omega) (by rw [sideOk_iff]; omega)
  rw [← hP] at HN1
  rw [← hQ] at HN2
  rw [← hP, ← hQ]
  have HA := Lib.hid fun w => areSides_any (W : Int) (H : Int) w
  rw [h3, h4, show decide ((W : Int) % 16 = 0) = true by simp; omega, show decide ((H : Int) % 16 = 0) = true by simp; omega] at HA
  obtain ⟨L, hL⟩ : ∃ L, L = FrPost w (⟨P, Q, Q⟩, 0) := ⟨_, rfl⟩
  rw [← hL]
  have HL := Lib.hid hL
  clear hb hP hQ hL h1 h2 h3 h4
  go_enter Try.func13, Try.ntmps13
  go_upto_region 1 with fail
  have HR := Lib.hid (show ResF w (w.alloc (.cells #[.int .i64 0, .int .i64 0, .slice none 0 0, .int .i64 0, .int .i64 0, .slice none 0 0, .int .i64 0, .int .i64 0, .slice none 0 0] 30)) w.heap.size from ⟨(Fr.refl _ _).alloc _, Nat.le_refl _, Blk.new w 30 zeroF⟩)
  generalize w.alloc (.cells #[.int .i64 0, .int .i64 0, .slice none 0 0, .int .i64 0, .int .i64 0, .slice none 0 0, .int .i64 0, .int .i64 0, .slice none 0 0] 30) = w1 at HR ⊢
  obtain ⟨r, hr⟩ : ∃ r, r = w.heap.size := ⟨_, rfl⟩
  rw [← hr] at HR ⊢
  clear hr
  go_wp2_with fail
  refine (HA.out _).mono ?_
  rintro e w2 ⟨rfl, rfl⟩
  clear HA
  go_wp2_with fail
  refine (HN1.out _).mono ?_
  rintro e w3 ⟨⟨W1, H1, A1, n1, c1⟩, rfl, ha1, hna1, hf1⟩
  have HR3 := Lib.hid (HR.out.fr0 hf1); have HA1 := Lib.hid ha1
  have Hn1 := Lib.hid (fun k hk => (by have := hna1 k hk; have := HR.out.br.lt; omega) : ∀ k, (Value.slice A1 n1 c1).ownBlock = some k → k ≠ r)
  clear ha1 hna1 hf1 HR
  simp only
  go_wp2_with fail
  refine (HN2.out _).mono ?_
  rintro e w4 ⟨⟨W2, H2, A2, n2, c2⟩, rfl, ha2, hna2, hf2⟩
  have HR4 := Lib.hid (HR3.out.fr0 hf2); have HA2 := Lib.hid ha2; have HA14 := Lib.hid (HA1.out.fr0 hf2)
  have Hn2 := Lib.hid (fun k hk => (by have := hna2 k hk; have := HR3.out.br.lt; omega) : ∀ k, (Value.slice A2 n2 c2).ownBlock = some k → k ≠ r)
  clear ha2 hna2 hf2 HR3 HA1
  simp only
  go_wp2_with fail
  refine (HN2.out _).mono ?_
  rintro e w5 ⟨⟨W3, H3, A3, n3, c3⟩, rfl, ha3, hna3, hf3⟩
  have HR5 := Lib.hid (HR4.out.fr0 hf3); have HA35 := Lib.hid ha3; have HA15 := Lib.hid (HA14.out.fr0 hf3); have HA25 := Lib.hid (HA2.out.fr0 hf3)
  have Hn3 := Lib.hid (fun k hk => (by have := hna3 k hk; have := HR4.out.br.lt; omega) : ∀ k, (Value.slice A3 n3 c3).ownBlock = some k → k ≠ r)
  clear ha3 hna3 hf3 HR4 HA14 HA2
  simp only
  have d0 := HR5.out.br.cell 0
  have d1 := HR5.out.br.cell 1
  have d2 := HR5.out.br.cell 2
  have d3 := HR5.out.br.cell 3
  have d4 := HR5.out.br.cell 4
  have d5 := HR5.out.br.cell 5
  have d6 := HR5.out.br.cell 6
  have d7 := HR5.out.br.cell 7
  have d8 := HR5.out.br.cell 8
  have f0 := HR5.out.br.frozen 0
  have f1 := HR5.out.br.frozen 1
  have f2 := HR5.out.br.frozen 2
  have f3 := HR5.out.br.frozen 3
  have f4 := HR5.out.br.frozen 4
  have f5 := HR5.out.br.frozen 5
  have f6 := HR5.out.br.frozen 6
  have f7 := HR5.out.br.frozen 7
  have f8 := HR5.out.br.frozen 8
  have hlr := HR5.out.br.lt
  simp [zeroF] at d0 d1 d2 d3 d4 d5 d6 d7 d8
  obtain ⟨hb5, hf5, hf6⟩ := HR5.out.stored (.int .i64 W1) (.int .i64 H1) (.slice A1 n1 c1) (.int .i64 W2) (.int .i64 H2) (.slice A2 n2 c2) (.int .i64 W3) (.int .i64 H3) (.slice A3 n3 c3)
  unfold store9 at hb5 hf5 hf6
  have HB5 := Lib.hid hb5; have HF5 := Lib.hid hf5; have HF6 := Lib.hid hf6
  clear hb5 hf5 hf6
  go_wp2_with fail
  refine bodyPost_ret (results_row_tmp Try.results13 _ _ r 30 _ (0, 0) _ rfl HB5.out.here Try.underlying30 rfl (by kernel_rfl)) rfl ?_
  rw [HL.out]
  exact ⟨⟨W1, H1, A1, n1, c1⟩, ⟨W2, H2, A2, n2, c2⟩, ⟨W3, H3, A3, n3, c3⟩, rfl, HA15.out.frS HF6.out (fun k hk => by simpa using Hn1.out k hk), HA25.out.frS HF6.out (fun k hk => by simpa using Hn2.out k hk), HA35.out.frS HF6.out (fun k hk => by simpa using Hn3.out k hk), HF5.out⟩

theorem pblank_any (W H : Int) (v : UInt8) (w : World) : Calls Try.prog 13 #[.int .i64 W, .int .i64 H, B8 v] w (FrPost w (frBlank W H v)) := by
  show Calls Try.prog 13 #[.int .i64 W, .int .i64 H, .int .u8 (v.toNat : Int)] w _
  cases h : sideOk W && sideOk H && decide (W % 16 = 0) && decide (H % 16 = 0)
  · exact pblank_bad W H v w h
  · simp only [Bool.and_eq_true, decide_eq_true_eq] at h
    obtain ⟨⟨⟨h1, h2⟩, h3⟩, h4⟩ := h
    obtain ⟨a1, a2⟩ := sideOk_iff.1 h1
    obtain ⟨b1, b2⟩ := sideOk_iff.1 h2
    obtain ⟨W', rfl⟩ : ∃ W' : Nat, W = (W' : Int) := ⟨W.toNat, by omega⟩
    obtain ⟨H', rfl⟩ : ∃ H' : Nat, H = (H' : Int) := ⟨H.toNat, by omega⟩
    exact pblank_good W' H' v w (by omega) (by omega) h1 h2

set_option maxRecDepth 20000 in
set_option maxHeartbeats 4000000 in
theorem psameF_any (y u v y' u' v' : FrAt) (F G : Frm) (w : World) (h1 : y.has w F.y) (h2 : u.has w F.u) (h3 : v.has w F.v) (k1 : y'.has w G.y) (k2 : u'.has w G.u) (k3 : v'.has w G.v) :
    Calls Try.prog 34 #[frV y u v, frV y' u' v'] w fun e w' => e = .returned (.bool (sameFr F G)) ∧ Fr [] w w' := by
  have hS : ∀ (a b : FrAt) (P Q : Pl) (W : World), a.has W P → b.has W Q → Calls Try.prog 52 #[.agg #[.int .i64 a.W, .int .i64 a.H, .slice a.A a.n a.c], .agg #[.int .i64 b.W, .int .i64 b.H, .slice b.A b.n b.c]] W fun e w' => e = .returned (.bool (samePl P Q)) ∧ Fr [] W w' := by
    intro a b P Q W ha hb
    obtain ⟨e1, e2, -, e4⟩ := ha
    obtain ⟨e5, e6, -, e8⟩ := hb
    have := alike_any a.W a.H a.A a.n a.c P.pix b.W b.H b.A b.n b.c Q.pix W e4 e8
    rw [show (⟨a.W, a.H, P.pix⟩ : Pl) = P by rw [e1, e2], show (⟨b.W, b.H, Q.pix⟩ : Pl) = Q by rw [e5, e6]] at this
    exact this
  have HS := Lib.hid hS
  have HA := Lib.hid (And.intro h1 (And.intro h2 (And.intro h3 (And.intro k1 (And.intro k2 k3)))))
  clear hS h1 h2 h3 k1 k2 k3
  obtain ⟨yW, yH, yA, yn, yc⟩ := y
  obtain ⟨uW, uH, uA, un, uc⟩ := u
  obtain ⟨vW, vH, vA, vn, vc⟩ := v
  obtain ⟨yW', yH', yA', yn', yc'⟩ := y'
  obtain ⟨uW', uH', uA', un', uc'⟩ := u'
  obtain ⟨vW', vH', vA', vn', vc'⟩ := v'
  have hT := pairT 30 w (FrAt.cells ⟨yW, yH, yA, yn, yc⟩ ⟨uW, uH, uA, un, uc⟩ ⟨vW, vH, vA, vn, vc⟩) (FrAt.cells ⟨yW', yH', yA', yn', yc'⟩ ⟨uW', uH', uA', un', uc'⟩ ⟨vW', vH', vA', vn', vc'⟩)
  have HS1 := Lib.hid fun W h => HS.out ⟨yW, yH, yA, yn, yc⟩ ⟨yW', yH', yA', yn', yc'⟩ F.y G.y W (HA.out.1.fr0 h) (HA.out.2.2.2.1.fr0 h)
  have HS2 := Lib.hid fun W h => HS.out ⟨uW, uH, uA, un, uc⟩ ⟨uW', uH', uA', un', uc'⟩ F.u G.u W (HA.out.2.1.fr0 h) (HA.out.2.2.2.2.1.fr0 h)
  have HS3 := Lib.hid fun W h => HS.out ⟨vW, vH, vA, vn, vc⟩ ⟨vW', vH', vA', vn', vc'⟩ F.v G.v W (HA.out.2.2.1.fr0 h) (HA.out.2.2.2.2.2.fr0 h)
  simp only at HS1 HS2 HS3
  unfold FrAt.cells at hT
  simp only at hT
  have HT := Lib.hid hT
  clear hT HS HA
  obtain ⟨R, hR⟩ : ∃ R, R = sameFr F G := ⟨_, rfl⟩
  rw [← hR]
  have HRr := Lib.hid hR
  clear hR
  unfold sameFr at HRr
  unfold frV FrAt.cells
  simp only
  obtain ⟨B1, hB1⟩ : ∃ B, B = samePl F.y G.y := ⟨_, rfl⟩
  obtain ⟨B2, hB2⟩ : ∃ B, B = samePl F.u G.u := ⟨_, rfl⟩
  obtain ⟨B3, hB3⟩ : ∃ B, B = samePl F.v G.v := ⟨_, rfl⟩
  rw [← hB1] at HS1 HRr
  rw [← hB2] at HS2 HRr
  rw [← hB3] at HS3 HRr
  clear hB1 hB2 hB3
  have hcase : B1 = false ∨ (B1 = true ∧ B2 = false) ∨ (B1 = true ∧ B2 = true) := by cases B1 <;> cases B2 <;> simp
  rcases hcase with rfl | ⟨rfl, rfl⟩ | ⟨rfl, rfl⟩
  all_goals
    go_enter Try.func34, Try.ntmps34
    go_upto_region 1 with fail
    generalize World.alloc (World.alloc w _) _ = w1 at HT ⊢
    obtain ⟨g, hg⟩ : ∃ g, g = w.heap.size := ⟨_, rfl⟩
    rw [← hg] at HT ⊢
    obtain ⟨r, hr⟩ : ∃ r, r = g + 1 := ⟨_, rfl⟩
    rw [← hr] at HT ⊢
    clear hg hr
    have c0 := HT.out.bg.cell 0
    have c1 := HT.out.bg.cell 1
    have c2 := HT.out.bg.cell 2
    have d0 := HT.out.br.cell 0
    have d1 := HT.out.br.cell 1
    have d2 := HT.out.br.cell 2
    have hlg := HT.out.bg.lt
    have hlr := HT.out.br.lt
    simp at c0 c1 c2 d0 d1 d2
    go_wp2_with fail
    refine (HS1.out _ HT.out.fr).mono ?_
    rintro e w2 ⟨rfl, hF2⟩
    have HT2 := Lib.hid (HT.out.fr0 hF2)
    clear hF2 c0 c1 c2 d0 d1 d2 hlg hlr HT
    have c0 := HT2.out.bg.cell 3
    have c1 := HT2.out.bg.cell 4
    have c2 := HT2.out.bg.cell 5
    have d0 := HT2.out.br.cell 3
    have d1 := HT2.out.br.cell 4
    have d2 := HT2.out.br.cell 5
    have hlg := HT2.out.bg.lt
    have hlr := HT2.out.br.lt
    simp at c0 c1 c2 d0 d1 d2
    go_wp2_with fail
  all_goals try (go_ret; exact ⟨by rw [HRr.out]; rfl, HT2.out.fr⟩)
  all_goals
    refine (HS2.out _ HT2.out.fr).mono ?_
    rintro e w3 ⟨rfl, hF3⟩
    have HT3 := Lib.hid (HT2.out.fr0 hF3)
    clear hF3 c0 c1 c2 d0 d1 d2 hlg hlr HT2
    have c0 := HT3.out.bg.cell 6
    have c1 := HT3.out.bg.cell 7
    have c2 := HT3.out.bg.cell 8
    have d0 := HT3.out.br.cell 6
    have d1 := HT3.out.br.cell 7
    have d2 := HT3.out.br.cell 8
    have hlg := HT3.out.bg.lt
    have hlr := HT3.out.br.lt
    simp at c0 c1 c2 d0 d1 d2
    go_wp2_with fail
  all_goals try (go_ret; exact ⟨by rw [HRr.out]; rfl, HT3.out.fr⟩)
  refine (HS3.out _ HT3.out.fr).mono ?_
  rintro e w4 ⟨rfl, hF4⟩
  have HF4 := Lib.hid (HT3.out.fr.trans hF4 (by simp))
  clear hF4 c0 c1 c2 d0 d1 d2 hlg hlr HT3
  go_wp2_with fail
  go_ret
  exact ⟨by rw [HRr.out]; simp, HF4.out⟩
end Go.Proofs.Ytlcjlgdcleenlaa
