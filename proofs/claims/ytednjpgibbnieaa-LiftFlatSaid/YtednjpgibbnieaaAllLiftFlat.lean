/-
  The law LiftFlat answers true whatever its input, and leaves its arguments as they were; no condition.
-/
import Derived.Test.YtednjpgibbnieaaAll1
import Derived.Test.YtednjpgibbnieaaAll2
/-
  The law LiftFlat, out of the contracts: true whatever its input.
-/
namespace Go.Proofs.Ytednjpgibbnieaa
open Go.RowKit

theorem fwd_congr (k : Nat) (f g : Nat → Int) (x y : Nat) (hx : x < 2 ^ k) (hy : y < 2 ^ k) (h : ∀ i, i < 2 ^ k * 2 ^ k → f i = g i) : fwdAt k f x y = fwdAt k g x y := by
  unfold fwdAt
  refine rowAt_congr k _ _ y hy fun j hj => ?_
  exact rowAt_congr k _ _ x hx fun i hi => h _ (cell_of hi hj)
theorem liftF_good {b : List Int} {k : Nat} (hk : k = 2 ∨ k = 3) (hl : b.length = 2 ^ k * 2 ^ k) (hB : Bnd b 1048576) : liftF b = (blkL k (fwdAt k (numAt b)), 0) := by
  have hs : sideK b.length = k := by
    rw [hl]
    rcases hk with rfl | rfl <;> rfl
  have hw : withinB b 1048576 = true := all_take b b.length 1048576 (fun j hj => hB j hj) rfl
  unfold liftF
  rw [if_neg, hs]
  rintro (h | h)
  · omega
  · rw [hw] at h; cases h
/-- What the three transforms are to each other. -/
theorem flat_facts {b fl mo : List Int} {k : Nat} {v : Int} (hk : k = 2 ∨ k = 3) (hl : b.length = 2 ^ k * 2 ^ k) (hfl : fl.length = b.length) (hml : mo.length = b.length) (hf : ∀ j, j < b.length → numAt fl j = v) (hm : ∀ j, j < b.length → numAt mo j = numAt b j + v)
    {i : Nat} (hi : i < b.length) :
    numAt (blkL k (fwdAt k (numAt fl))) i = (if i = 0 then v else 0) ∧ numAt (blkL k (fwdAt k (numAt mo))) i = numAt (blkL k (fwdAt k (numAt b))) i + (if i = 0 then v else 0) := by
  rw [hl] at hi hf hm
  obtain ⟨hx, hy, he⟩ := by_cell hi
  have h0 : (i % 2 ^ k = 0 ∧ i / 2 ^ k = 0) ↔ i = 0 := by
    constructor
    · rintro ⟨q1, q2⟩
      rw [← he, q1, q2]
      simp
    · rintro rfl
      simp
  rw [blkL_get k _ hi, blkL_get k _ hi, blkL_get k _ hi]
  rw [fwd_congr k (numAt fl) (fun _ => v) _ _ hx hy hf, fwd_congr k (numAt mo) (fun j => numAt b j + v) _ _ hx hy hm, fwd_flat k v _ _ (by omega), fwd_shift k _ v _ _ (by omega)]
  by_cases hi0 : i = 0
  · rw [if_pos (h0.2 hi0), if_pos hi0]
    exact ⟨rfl, rfl⟩
  · rw [if_neg (fun h => hi0 (h0.1 h)), if_neg hi0]
    exact ⟨rfl, rfl⟩

/-- The rows while they are filled. -/
structure FlatAt (b : List Int) (v : Int) (i : Nat) (fl mo : List Int) : Prop where
  l1 : fl.length = b.length
  l2 : mo.length = b.length
  f : ∀ j, j < i → numAt fl j = v
  m : ∀ j, j < i → numAt mo j = numAt b j + v
  in_ : ∀ j, j < i → -524288 ≤ numAt b j ∧ numAt b j ≤ 524288
theorem numAt_set {l : List Int} {i j : Nat} (z : Int) (hi : i < l.length) : numAt (l.set i z) j = if j = i then z else numAt l j := by
  unfold numAt
  by_cases h : j = i
  · subst h
    rw [if_pos rfl, List.getD_eq_getElem?_getD, List.getElem?_set_self hi]
    rfl
  · rw [if_neg h, List.getD_eq_getElem?_getD, List.getElem?_set_ne (fun e => h e.symm), ← List.getD_eq_getElem?_getD]
theorem FlatAt.next {b : List Int} {v : Int} {i : Nat} {fl mo : List Int} (h : FlatAt b v i fl mo) (hi : i < b.length) (hin : -524288 ≤ numAt b i ∧ numAt b i ≤ 524288) : FlatAt b v (i + 1) (fl.set i v) (mo.set i (numAt b i + v)) := by
  refine ⟨by rw [List.length_set]; exact h.l1, by rw [List.length_set]; exact h.l2, fun j hj => ?_, fun j hj => ?_, fun j hj => ?_⟩
  · rw [numAt_set _ (by rw [h.l1]; exact hi)]
    split
    · rfl
    · exact h.f j (by omega)
  · rw [numAt_set _ (by rw [h.l2]; exact hi)]
    split
    · rename_i e; rw [e]
    · exact h.m j (by omega)
  · by_cases hji : j = i
    · rw [hji]; exact hin
    · exact h.in_ j (by omega)

theorem TwoN.setA {w0 w : World} {gf gm n c n' c' j : Nat} {fl mo : List Int} (h : TwoN w0 w (.slice (some ⟨gf, 0, none⟩) n c) (.slice (some ⟨gm, 0, none⟩) n' c') fl mo) (hj : j < fl.length) :
    (∃ z : Int, w.cell? ⟨gf, j, none⟩ = some (.int .i64 z)) ∧ w.frozen? ⟨gf, j, none⟩ = false ∧ gf < w.heap.size ∧ ∀ z : Int, TwoN w0 (w.setCell ⟨gf, j, none⟩ (.int .i64 z)) (.slice (some ⟨gf, 0, none⟩) n c) (.slice (some ⟨gm, 0, none⟩) n' c') (fl.set j z) mo := by
  obtain ⟨g', hg', -, hgl, cz, fz, -, hst⟩ := h.a.cell hj
  have hge := Option.some.inj hg'
  injection hge with hge
  subst hge
  refine ⟨⟨_, cz⟩, fz, hgl, fun z => ⟨hst z, ⟨?_, (hst z).fr, h.b.new⟩, h.ne⟩⟩
  exact h.b.own.fr (Fr.setCell (Fr.refl [gf] w) (p := ⟨gf, j, none⟩) (.inl (by simp)) _) (fun k hk hm => by
    simp at hm
    subst hm
    exact h.ne _ rfl hk)
theorem TwoN.swap {w0 w : World} {v u : Value} {ns ms : List Int} (h : TwoN w0 w v u ns ms) : TwoN w0 w u v ms ns := ⟨h.b, h.a, fun k hk hv => h.ne k hv hk⟩

theorem flat_alive (v : Int) (n : Nat) (h : ¬ ((n = 16 ∨ n = 64) ∧ -524288 ≤ v ∧ v ≤ 524288)) :
    ((((n : Int) != 16) = true ∧ ((n : Int) != 64) = true)) ∨ (((n : Int) != 16) = false ∧ v < -524288) ∨ (((n : Int) != 16) = true ∧ ((n : Int) != 64) = false ∧ v < -524288) ∨ (((n : Int) != 16) = false ∧ -524288 ≤ v ∧ 524288 < v) ∨ (((n : Int) != 16) = true ∧ ((n : Int) != 64) = false ∧ -524288 ≤ v ∧ 524288 < v) := by
  by_cases h1 : n = 16
  · subst h1
    by_cases h2 : v < -524288
    · exact .inr (.inl ⟨rfl, h2⟩)
    · exact .inr (.inr (.inr (.inl ⟨rfl, by omega, by omega⟩)))
  · have e1 : ((n : Int) != 16) = true := by simp; omega
    by_cases h2 : n = 64
    · subst h2
      by_cases h3 : v < -524288
      · exact .inr (.inr (.inl ⟨rfl, rfl, h3⟩))
      · exact .inr (.inr (.inr (.inr ⟨rfl, rfl, by omega, by omega⟩)))
    · exact .inl ⟨e1, by simp; omega⟩

set_option maxRecDepth 20000 in
set_option maxHeartbeats 8000000 in
theorem flat7_bad (Z : LiftSpec) (v : Int) (A : Option Addr) (n c : Nat) (w : World) (hm : n ≤ 9223372036854775807) (h : ¬ ((n = 16 ∨ n = 64) ∧ -524288 ≤ v ∧ v ≤ 524288)) :
    Calls Try.prog 5 #[.slice A n c, .int .i64 v] w fun e w' => e = .returned (.bool true) ∧ Fr [] w w' := by
  have HA := Lib.hid fun W => alive7_any Z W
  rcases flat_alive v n h with ⟨t16, t64⟩ | ⟨t16, h2⟩ | ⟨t16, t64, h2⟩ | ⟨t16, h2, h3⟩ | ⟨t16, t64, h2, h3⟩
  case' inr.inl => have e2 : decide (v < -524288) = true := decide_eq_true h2
  case' inr.inr.inl => have e2 : decide (v < -524288) = true := decide_eq_true h2
  case' inr.inr.inr.inl =>
    have e2 : decide (v < -524288) = false := decide_eq_false (by omega)
    have e3 : decide (524288 < v) = true := decide_eq_true h3
  case' inr.inr.inr.inr =>
    have e2 : decide (v < -524288) = false := decide_eq_false (by omega)
    have e3 : decide (524288 < v) = true := decide_eq_true h3
  all_goals
    clear h
    go_enter Try.func5, Try.ntmps5
    go_wp2_with fail
    refine (HA.out _).mono ?_
    rintro e w1 ⟨rfl, hF1⟩
    have HF1 := Lib.hid hF1
    clear hF1
    go_wp2_with fail
    go_ret
    exact ⟨rfl, HF1.out⟩
end Go.Proofs.Ytednjpgibbnieaa

/-
  The law LiftFlat, out of the contracts: true whatever its input; what is asked.
-/
namespace Go.Proofs.Ytednjpgibbnieaa
open Go.RowKit

set_option maxRecDepth 20000 in
set_option maxHeartbeats 8000000 in
theorem flat7_good (Z : LiftSpec) (v : Int) (A : Option Addr) (c : Nat) (b : List Int) (w : World) (hs : Src w (.slice A b.length c) (b.map I64)) (hj : Js b) (k : Nat) (hk : k = 2 ∨ k = 3) (hl : b.length = 2 ^ k * 2 ^ k) (hv1 : -524288 ≤ v) (hv2 : v ≤ 524288) :
    Calls Try.prog 5 #[.slice A b.length c, .int .i64 v] w fun e w' => e = .returned (.bool true) ∧ Fr [] w w' := by
  have HA := Lib.hid fun W => alive7_any Z W
  obtain ⟨n, hn⟩ : ∃ n, n = b.length := ⟨_, rfl⟩
  have hn2 : n = 16 ∨ n = 64 := by
    rcases hk with rfl | rfl
    · left; omega
    · right; omega
  have hn64 : n ≤ 64 := by omega
  have hn16 : 16 ≤ n := by omega
  have tt : ((n : Int) != 16) = false ∨ (((n : Int) != 16) = true ∧ ((n : Int) != 64) = false) := by
    rcases hn2 with rfl | rfl
    · exact .inl rfl
    · exact .inr ⟨rfl, rfl⟩
  have e2 : decide (v < -524288) = false := decide_eq_false (by omega)
  have e3 : decide (524288 < v) = false := decide_eq_false (by omega)
  have hfwd := fun W B d (xs : List Int) (h : Src W (.slice B xs.length d) (xs.map I64)) (hx : xs.length = n) (hb : Bnd xs 1048576) => (by
    have hjs : Js xs := fun i hi => by
      have := hb i hi
      unfold InI
      omega
    have := Z.fwd W B d xs h (by omega) hjs
    rw [liftF_good hk (by omega) hb] at this
    exact this : Calls Try.prog 8 #[.slice B xs.length d] W (NumErr W (blkL k (fwdAt k (numAt xs)), 0)))
  have hbl : ∀ xs : List Int, (blkL k (fwdAt k (numAt xs))).length = n := fun xs => by rw [blkL_length]; omega
  have hfacts := fun (fl mo : List Int) (h : FlatAt b v n fl mo) (i : Nat) (hi : i < n) => flat_facts hk hl h.l1 h.l2 (fun j hj => h.f j (by omega)) (fun j hj => h.m j (by omega)) (i := i) (by omega)
  have hy0 : (∀ j, j < n → -524288 ≤ numAt b j ∧ numAt b j ≤ 524288) → -524288 ≤ numAt (blkL k (fwdAt k (numAt b))) 0 ∧ numAt (blkL k (fwdAt k (numAt b))) 0 ≤ 524288 := by
    intro h
    have h0 : 0 < 2 ^ k * 2 ^ k := by omega
    rw [blkL_get k _ h0]
    obtain ⟨hx, hy, -⟩ := by_cell h0
    exact (fwd_le k (numAt b) 524288 _ _ hx hy fun j hj => h j (by omega)).2 (by simp) (by simp)
  have Hfwd := Lib.hid hfwd; have Hbl := Lib.hid hbl; have Hfacts := Lib.hid hfacts; have Hy0 := Lib.hid hy0; have HS := Lib.hid hs; have Hn := Lib.hid hn
  have hA : ∃ ad, A = some ad := by
    rcases hs with ⟨e, h0⟩ | ⟨ad, c', e, -, -⟩
    · have := congrArg List.length h0
      rw [List.length_map, List.length_nil] at this
      omega
    · injection e with q1
      exact ⟨ad, q1⟩
  obtain ⟨ad, rfl⟩ := hA
  obtain ⟨i0, hi0, hz0, hs0, hb0⟩ := info_parts info_num
  rw [← hn]
  clear hfwd hbl hfacts hy0 hs hn hn2 hj hk hl
  have Htt := Lib.hid tt
  clear tt
  rcases Htt.out with t16 | ⟨t16, t64⟩
  all_goals
    clear Htt
    go_enter Try.func5, Try.ntmps5
    go_wp2_with (at_make; refine wpList_make_mine _ _ 22 3 i0 _ 8 _ _ n rfl rfl Try.underlying22 hi0 hz0 hs0 hb0 rfl rfl rfl (by omega) (by simp only [maxLen]; omega) ?_)
    intro w1 hO1 hF1 hlt1
    have hM1 : MineN w w1 (.slice (some ⟨w.heap.size, 0, none⟩) n n) (List.replicate n 0) := by
      refine ⟨?_, hF1, fun k hk => ?_⟩
      · rw [List.map_replicate]; exact hO1
      · have : w.heap.size = k := by simpa [Value.ownBlock] using hk
        omega
    obtain ⟨gf, hgf⟩ : ∃ g, g = w.heap.size := ⟨_, rfl⟩
    rw [← hgf] at hM1 ⊢
    have HM1 := Lib.hid hM1
    clear hO1 hF1 hlt1 hM1 hgf hi0 hz0 hs0 hb0
    go_wp2_with (at_builtin; refine wp_append_num _ _ (.slice (some ⟨w1.heap.size, 0, none⟩) 0 0) [] (.slice (some ad) n c) b rfl rfl rfl rfl (Own.lit w1 3 #[] 0 rfl (by simp [maxLen])) (by rw [Hn.out]; exact (HS.out.fr0 HM1.out.fr).fr0 ((Fr.refl _ _).alloc _)) (by have := Hn.out; simp; omega) ?_)
    intro B d w2 hO hG
    have hT0 : TwoN w (w1.alloc (.cells #[] 3)) (.slice (some ⟨w1.heap.size, 0, none⟩) 0 0) (.slice (some ⟨gf, 0, none⟩) n n) [] (List.replicate n 0) := by
      have hfa := (Fr.refl [] w1).alloc (.cells #[] 3)
      refine ⟨⟨Own.lit w1 3 #[] 0 rfl (by simp [maxLen]), HM1.out.fr.trans hfa (by simp), fun k hk => ?_⟩, HM1.out.fr0 hfa, fun k hk hu => ?_⟩
      · have : w1.heap.size = k := by simpa [Value.ownBlock] using hk
        have := HM1.out.fr.size
        omega
      · have h1 : w1.heap.size = k := by simpa [Value.ownBlock] using hk
        have h2 := HM1.out.own.lt k hu
        omega
    have hT2 := (hT0.first (xs := b) (by simpa using hO) hG).swap
    simp only [List.nil_append, List.length_nil, Nat.zero_add] at hT2 ⊢
    rw [← Hn.out] at hT2 ⊢
    obtain ⟨gm, rfl, -⟩ := hT2.b.cell (j := 0) (by have := Hn.out; omega)
    have HT2 := Lib.hid hT2
    clear hO hG hT0 hT2 HM1
    go_wp2_with fail
    go_loopw [7] (fun s7 wr => ∃ (i : Nat) (fl mo : List Int), i ≤ n ∧ s7 = .int .i64 (i : Int) ∧ TwoN w wr (.slice (some ⟨gf, 0, none⟩) n n) (.slice (some ⟨gm, 0, none⟩) n d) fl mo ∧ FlatAt b v i fl mo ∧ ∀ j, i ≤ j → numAt mo j = numAt b j) (fun s7 _ => n - (intOf s7).toNat)
    case atStart => exact ⟨0, _, _, by omega, rfl, HT2.out, ⟨by simp [Hn.out], rfl, by omega, by omega, by omega⟩, fun _ _ => rfl⟩
    case round =>
      clear HT2
      obtain ⟨i, fl, mo, hi, rfl, hT, hFl, hrest⟩ := hrel
      by_cases hlt : i < n
      · have eg : decide (i < n) = true := by simpa using hlt
        have hib : i < b.length := by have := Hn.out; omega
        have cx := (HS.out.fr0 hT.a.fr).numS hib
        obtain ⟨u, hu⟩ : ∃ u, u = b.getD i 0 := ⟨_, rfl⟩
        rw [← hu] at cx
        have hun : numAt b i = u := hu.symm
        have HT := Lib.hid hT; have HFl := Lib.hid hFl; have Hrest := Lib.hid hrest
        clear hT hFl hrest hu
        by_cases h1 : u < -524288
        · have q1 : decide (u < -524288) = true := decide_eq_true h1
          go_wp2_with fail
          refine (HA.out _).mono ?_
          rintro e w3 ⟨rfl, hf3⟩
          have HF3 := Lib.hid (HT.out.a.fr.trans hf3 (by simp))
          clear hf3
          go_wp2_with fail
          go_ret
          exact ⟨rfl, HF3.out⟩
        · have q1 : decide (u < -524288) = false := decide_eq_false h1
          by_cases h2 : 524288 < u
          · have q2 : decide (524288 < u) = true := decide_eq_true h2
            go_wp2_with fail
            refine (HA.out _).mono ?_
            rintro e w3 ⟨rfl, hf3⟩
            have HF3 := Lib.hid (HT.out.a.fr.trans hf3 (by simp))
            clear hf3
            go_wp2_with fail
            go_ret
            exact ⟨rfl, HF3.out⟩
          · have q2 : decide (524288 < u) = false := decide_eq_false h2
            have wuv : IntKind.i64.wrap (u + v) = u + v := IntWalk.i64_in _ (by omega)
            obtain ⟨⟨z1, cf⟩, ff, hgf, hset⟩ := HT.out.setA (j := i) (by rw [HFl.out.l1]; exact hib)
            have hT3 := hset v
            obtain ⟨⟨z2, cm⟩, fm, hgm, hset2⟩ := hT3.swap.setA (j := i) (by rw [HFl.out.l2]; exact hib)
            have hT4 := (hset2 (u + v)).swap
            have cx3 := (HS.out.fr0 hT3.a.fr).numS hib
            rw [show b.getD i 0 = u from hun] at cx3
            have hFl2 := HFl.out.next hib (by rw [hun]; omega)
            rw [hun] at hFl2
            have hrest2 : ∀ j, i + 1 ≤ j → numAt (mo.set i (u + v)) j = numAt b j := fun j hj => by
              rw [numAt_set _ (by rw [HFl.out.l2]; exact hib), if_neg (by omega)]
              exact Hrest.out j (by omega)
            have HT4 := Lib.hid hT4; have HFl2 := Lib.hid hFl2; have Hrest2 := Lib.hid hrest2
            clear hT3 hT4 hset hset2 hFl2 hrest2 hun HT HFl Hrest hib
            go_wp2_with fail
            exact ⟨⟨i + 1, _, _, by omega, by simp, HT4.out, HFl2.out, Hrest2.out⟩, by simp [intOf]; omega⟩
      · have eg : decide (i < n) = false := by simpa using hlt
        have hin : i = n := by omega
        rw [hin] at hFl
        have HT := Lib.hid hT; have HFl := Lib.hid hFl
        clear hT hFl hrest hin
        have hfl : fl.length = n := by rw [HFl.out.l1]; exact Hn.out.symm
        have hml : mo.length = n := by rw [HFl.out.l2]; exact Hn.out.symm
        have hn := Hn.out
        have B1 : Bnd fl 1048576 := fun j hj => by
          have := HFl.out.f j (by omega)
          omega
        have B2 : Bnd b 1048576 := fun j hj => by
          have := HFl.out.in_ j (by omega)
          omega
        have B3 : Bnd mo 1048576 := fun j hj => by
          have h1 := HFl.out.m j (by omega)
          have h2 := HFl.out.in_ j (by omega)
          omega
        have C1 := fun W (hf : Fr [] wr W) => Hfwd.out W (some ⟨gf, 0, none⟩) n fl (by rw [hfl]; exact HT.out.a.src.fr0 hf) hfl B1
        have C2 := fun W (hf : Fr [] wr W) => Hfwd.out W (some ad) c b ((HS.out.fr0 HT.out.a.fr).fr0 hf) hn.symm B2
        have C3 := fun W (hf : Fr [] wr W) => Hfwd.out W (some ⟨gm, 0, none⟩) d mo (by rw [hml]; exact HT.out.b.src.fr0 hf) hml B3
        have hfc := fun i hi => Hfacts.out fl mo HFl.out i hi
        have hy := Hy0.out HFl.out.in_
        have lx := Hbl.out fl
        have ly := Hbl.out b
        have lz := Hbl.out mo
        rw [hfl] at C1
        rw [← hn] at C2
        rw [hml] at C3
        obtain ⟨X, hX⟩ : ∃ X, X = blkL k (fwdAt k (numAt fl)) := ⟨_, rfl⟩
        obtain ⟨Y, hY⟩ : ∃ Y, Y = blkL k (fwdAt k (numAt b)) := ⟨_, rfl⟩
        obtain ⟨V, hV⟩ : ∃ V, V = blkL k (fwdAt k (numAt mo)) := ⟨_, rfl⟩
        rw [← hX] at C1 hfc lx
        rw [← hY] at C2 hfc hy ly
        rw [← hV] at C3 hfc lz
        have HC1 := Lib.hid C1; have HC2 := Lib.hid C2; have HC3 := Lib.hid C3; have Hfc := Lib.hid hfc; have Lx := Lib.hid lx; have Ly := Lib.hid ly; have Lz := Lib.hid lz; have Hy := Lib.hid hy
        have HF0 := Lib.hid HT.out.a.fr
        clear hfl hml hn B1 B2 B3 C1 C2 C3 hfc hy lx ly lz hX hY hV HT HFl Hfwd Hfacts Hy0 Hbl
        have tn : ((n : Int) != (n : Int)) = false := by simp
        go_wp2_with fail
        refine (HC1.out _ (Fr.refl _ _)).mono ?_
        rintro e w3 ⟨A3, c3, rfl, hs3, hf3⟩
        simp only at hs3 ⊢
        rw [Lx.out] at hs3 ⊢
        have HF3 := Lib.hid hf3; have HS3 := Lib.hid hs3
        clear hs3 hf3 HC1
        go_wp2_with fail
        refine (HC2.out _ HF3.out).mono ?_
        rintro e w4 ⟨A4, c4, rfl, hs4, hf4⟩
        simp only at hs4 ⊢
        rw [Ly.out] at hs4 ⊢
        have HF4 := Lib.hid (HF3.out.trans hf4 (by simp)); have HS34 := Lib.hid (HS3.out.fr0 hf4); have HS4 := Lib.hid hs4
        clear hs4 hf4 HC2 HF3 HS3
        go_wp2_with fail
        refine (HC3.out _ HF4.out).mono ?_
        rintro e w5 ⟨A5, c5, rfl, hs5, hf5⟩
        simp only at hs5 ⊢
        rw [Lz.out] at hs5 ⊢
        have HF5 := Lib.hid (HF0.out.trans (HF4.out.trans hf5 (by simp)) (by simp)); have HS35 := Lib.hid (HS34.out.fr0 hf5); have HS45 := Lib.hid (HS4.out.fr0 hf5); have HS5 := Lib.hid hs5
        clear hs5 hf5 HC3 HF4 HS34 HS4 HF0
        obtain ⟨xd, rfl, -⟩ := HS35.out.num (k := 0) (by have := Lx.out; omega)
        obtain ⟨yd, rfl, -⟩ := HS45.out.num (k := 0) (by have := Ly.out; omega)
        obtain ⟨zd, rfl, -⟩ := HS5.out.num (k := 0) (by have := Lz.out; omega)
        have hcells := fun i (hi : i < n) W (hf : Fr [] w5 W) => (by
          have h1 := (HS35.out.fr0 hf).numS (k := i) (by have := Lx.out; omega)
          have h2 := (HS45.out.fr0 hf).numS (k := i) (by have := Ly.out; omega)
          have h3 := (HS5.out.fr0 hf).numS (k := i) (by have := Lz.out; omega)
          obtain ⟨f1, f2⟩ := Hfc.out i hi
          unfold numAt at f1 f2
          rw [f1] at h1
          rw [f2] at h3
          exact ⟨h1, h2, h3⟩ : W.cell? (xd.add i) = some (.int .i64 (if i = 0 then v else 0)) ∧ W.cell? (yd.add i) = some (.int .i64 (Y.getD i 0)) ∧ W.cell? (zd.add i) = some (.int .i64 (Y.getD i 0 + (if i = 0 then v else 0))))
        have Hcells := Lib.hid hcells
        clear hcells HS35 HS45 HS5 Hfc Lx Ly Lz
        go_wp2_with fail
        go_loopw [14] (fun s14 wr => ∃ i : Nat, 1 ≤ i ∧ i ≤ n ∧ s14 = .int .i64 (i : Int) ∧ Fr [] w5 wr) (fun s14 _ => n - (intOf s14).toNat)
        case atStart => exact ⟨1, by omega, by omega, rfl, Fr.refl _ _⟩
        case round =>
          obtain ⟨i, hi1, hi, rfl, hF⟩ := hrel
          have HF := Lib.hid hF
          clear hF
          by_cases hlt5 : i < n
          · have eg5 : decide (i < n) = true := by simpa using hlt5
            obtain ⟨d1, d2, d3⟩ := Hcells.out i hlt5 _ HF.out.drew
            rw [if_neg (by omega)] at d1 d3
            rw [Int.add_zero] at d3
            obtain ⟨u, hu⟩ : ∃ u, u = Y.getD i 0 := ⟨_, rfl⟩
            rw [← hu] at d2 d3
            have tu : (u != u) = false := by simp
            clear hu
            go_upto_region 20 with fail
            refine wp_region_held_drew (S := fun W' => W'.cell? (xd.add i) = some (.int .i64 0) ∧ W'.cell? (yd.add i) = some (.int .i64 u) ∧ W'.cell? (zd.add i) = some (.int .i64 u)) (by kernel_rfl) ?_ (fun hHeld => ?_)
            · exact ⟨d1, d2, d3⟩
            refine wpAnyH_pick 0 (v := ?_) rfl (by kernel_rfl) (by kernel_rfl) (by kernel_rfl) (fun _ _ _ h => h) (by assumption) (by rfl) ?_ ?_
            rotate_left
            · (intro w hSw; (try dsimp only at hSw); go_simp) <;> (with_reducible rfl)
            (try simp only [Act.put, List.setIfInBounds_toArray, List.set_cons_zero, List.set_cons_succ])
            refine wpAnyH_pick 1 (v := ?_) rfl (by kernel_rfl) (by kernel_rfl) (by kernel_rfl) (fun _ _ _ h => h) (by assumption) (by rfl) ?_ ?_
            rotate_left
            · (intro w hSw; (try dsimp only at hSw); go_simp) <;> (with_reducible rfl)
            (try simp only [Act.put, List.setIfInBounds_toArray, List.set_cons_zero, List.set_cons_succ])
            refine wpAnyH_pick 2 (v := ?_) rfl (by kernel_rfl) (by kernel_rfl) (by kernel_rfl) (fun _ _ _ h => h) (by assumption) (by rfl) ?_ ?_
            rotate_left
            · (intro w hSw; (try dsimp only at hSw); go_simp) <;> (with_reducible rfl)
            (try simp only [Act.put, List.setIfInBounds_toArray, List.set_cons_zero, List.set_cons_succ])
            refine wpAnyH_pick 3 (v := ?_) rfl (by kernel_rfl) (by kernel_rfl) (by kernel_rfl) (fun _ _ _ h => h) (by assumption) (by rfl) ?_ ?_
            rotate_left
            · (intro w hSw; (try dsimp only at hSw); go_simp) <;> (with_reducible rfl)
            (try simp only [Act.put, List.setIfInBounds_toArray, List.set_cons_zero, List.set_cons_succ])
            refine wpAnyH_pick 4 (v := ?_) rfl (by kernel_rfl) (by kernel_rfl) (by kernel_rfl) (fun _ _ _ h => h) (by assumption) (by rfl) ?_ ?_
            rotate_left
            · (intro w hSw; (try dsimp only at hSw); go_simp) <;> (with_reducible rfl)
            (try simp only [Act.put, List.setIfInBounds_toArray, List.set_cons_zero, List.set_cons_succ])
            refine wpAnyH_pick 5 (v := ?_) rfl (by kernel_rfl) (by kernel_rfl) (by kernel_rfl) (fun _ _ _ h => h) (by assumption) (by rfl) ?_ ?_
            rotate_left
            · (intro w hSw; (try dsimp only at hSw); go_simp) <;> (with_reducible rfl)
            (try simp only [Act.put, List.setIfInBounds_toArray, List.set_cons_zero, List.set_cons_succ])
            refine wpAnyH_pick 6 (v := ?_) rfl (by kernel_rfl) (by kernel_rfl) (by kernel_rfl) (fun _ _ _ h => h) (by assumption) (by rfl) ?_ ?_
            rotate_left
            · (intro w hSw; (try dsimp only at hSw); go_simp) <;> (with_reducible rfl)
            (try simp only [Act.put, List.setIfInBounds_toArray, List.set_cons_zero, List.set_cons_succ])
            refine wpAnyH_pick 7 (v := ?_) rfl (by kernel_rfl) (by kernel_rfl) (by kernel_rfl) (fun _ _ _ h => h) (by assumption) (by rfl) ?_ ?_
            rotate_left
            · (intro w hSw; (try dsimp only at hSw); go_simp) <;> (with_reducible rfl)
            (try simp only [Act.put, List.setIfInBounds_toArray, List.set_cons_zero, List.set_cons_succ])
            refine wpAnyH_pick 8 (v := ?_) rfl (by kernel_rfl) (by kernel_rfl) (by kernel_rfl) (fun _ _ _ h => h) (by assumption) (by rfl) ?_ ?_
            rotate_left
            · (intro w hSw; (try dsimp only at hSw); go_simp) <;> (with_reducible rfl)
            (try simp only [Act.put, List.setIfInBounds_toArray, List.set_cons_zero, List.set_cons_succ])
            refine wpAnyH_pick 9 (v := ?_) rfl (by kernel_rfl) (by kernel_rfl) (by kernel_rfl) (fun _ _ _ h => h) (by assumption) (by rfl) ?_ ?_
            rotate_left
            · (intro w hSw; (try dsimp only at hSw); go_simp) <;> (with_reducible rfl)
            (try simp only [Act.put, List.setIfInBounds_toArray, List.set_cons_zero, List.set_cons_succ])
            refine wpAnyH_pick 10 (v := ?_) rfl (by kernel_rfl) (by kernel_rfl) (by kernel_rfl) (fun _ _ _ h => h) (by assumption) (by rfl) ?_ ?_
            rotate_left
            · (intro w hSw; (try dsimp only at hSw); go_simp) <;> (with_reducible rfl)
            (try simp only [Act.put, List.setIfInBounds_toArray, List.set_cons_zero, List.set_cons_succ])
            refine wpAnyH_pick 11 (v := ?_) rfl (by kernel_rfl) (by kernel_rfl) (by kernel_rfl) (fun _ _ _ h => h) (by assumption) (by rfl) ?_ ?_
            rotate_left
            · (intro w hSw; (try dsimp only at hSw); go_simp) <;> (with_reducible rfl)
            (try simp only [Act.put, List.setIfInBounds_toArray, List.set_cons_zero, List.set_cons_succ])
            refine wpAnyH_pick 12 (v := ?_) rfl (by kernel_rfl) (by kernel_rfl) (by kernel_rfl) (fun _ _ _ h => h) (by assumption) (by rfl) ?_ ?_
            rotate_left
            · (intro w hSw; (try dsimp only at hSw); go_simp) <;> (with_reducible rfl)
            (try simp only [Act.put, List.setIfInBounds_toArray, List.set_cons_zero, List.set_cons_succ])
            refine wpAnyH_pick 13 (v := ?_) rfl (by kernel_rfl) (by kernel_rfl) (by kernel_rfl) (fun _ _ _ h => h) (by assumption) (by rfl) ?_ ?_
            rotate_left
            · (intro w hSw; (try dsimp only at hSw); go_simp) <;> (with_reducible rfl)
            (try simp only [Act.put, List.setIfInBounds_toArray, List.set_cons_zero, List.set_cons_succ])
            refine wpAnyH_pick 14 (v := ?_) rfl (by kernel_rfl) (by kernel_rfl) (by kernel_rfl) (fun _ _ _ h => h) (by assumption) (by rfl) ?_ ?_
            rotate_left
            · (intro w hSw; (try dsimp only at hSw); go_simp) <;> (with_reducible rfl)
            (try simp only [Act.put, List.setIfInBounds_toArray, List.set_cons_zero, List.set_cons_succ])
            refine wpAnyH_pick 15 (v := ?_) rfl (by kernel_rfl) (by kernel_rfl) (by kernel_rfl) (fun _ _ _ h => h) (by assumption) (by rfl) ?_ ?_
            rotate_left
            · (intro w hSw; (try dsimp only at hSw); go_simp) <;> (with_reducible rfl)
            (try simp only [Act.put, List.setIfInBounds_toArray, List.set_cons_zero, List.set_cons_succ])
            refine wpAnyH_done (by kernel_rfl) ?_ _
            skip
            have HF2 := Lib.hid HF.out.drew
            go_wp2_with fail
            exact ⟨⟨i + 1, by omega, by omega, by simp, HF2.out⟩, by simp [intOf]; omega⟩
          · have eg5 : decide (i < n) = false := by simpa using hlt5
            have hHc := fun W hf => Hcells.out 0 (by omega) W hf
            simp only [if_true] at hHc
            obtain ⟨u, hu⟩ : ∃ u, u = Y.getD 0 0 := ⟨_, rfl⟩
            have hyu : -524288 ≤ u ∧ u ≤ 524288 := by rw [hu]; exact Hy.out
            rw [← hu] at hHc
            have HHc := Lib.hid hHc
            have wuv : IntKind.i64.wrap (u + v) = u + v := IntWalk.i64_in _ (by omega)
            have cc := hHc _ HF.out.drew
            simp only [show ∀ a : Addr, a.add 0 = a from fun a => by simp [Addr.add]] at cc HHc
            have tv : (v == v) = true := by simp
            have hn0 : 0 < n := by omega
            have tuv : (u + v == u + v) = true := by simp
            clear hHc hu
            go_upto_region 22 with fail
            refine wp_region_held_drew (S := fun W' => W'.cell? xd = some (.int .i64 v) ∧ W'.cell? yd = some (.int .i64 u) ∧ W'.cell? zd = some (.int .i64 (u + v))) (by kernel_rfl) ?_ (fun hHeld => ?_)
            · (first | exact m0 | exact cc)
            refine wpAnyH_ready (rs := [0]) (by kernel_rfl) (by simp) ?_
            refine AllReadyH_pick rfl (fun K hK => ?_) (AllReadyH.nil)
            go_simp
            refine (HA.out _).mono ?_
            rintro e w6 ⟨rfl, hf6⟩
            have m0 := HHc.out _ (HF.out.drew.trans hf6 (by simp))
            have HF6 := Lib.hid (HF5.out.trans (HF.out.drew.trans hf6 (by simp)) (by simp))
            clear hf6
            go_wp2_with fail
            refine hK.out _ _ ?_ (fun hHeld => ?_)
            · (first | exact m0 | exact cc)
            clear hK K
            (try simp only [Act.put, List.setIfInBounds_toArray, List.set_cons_zero, List.set_cons_succ])
            refine wpAnyH_pick 1 (v := ?_) rfl (by kernel_rfl) (by kernel_rfl) (by kernel_rfl) (fun _ _ _ h => h) (by assumption) (by rfl) ?_ ?_
            rotate_left
            · (intro w hSw; (try dsimp only at hSw); go_simp) <;> (with_reducible rfl)
            (try simp only [Act.put, List.setIfInBounds_toArray, List.set_cons_zero, List.set_cons_succ])
            refine wpAnyH_pick 2 (v := ?_) rfl (by kernel_rfl) (by kernel_rfl) (by kernel_rfl) (fun _ _ _ h => h) (by assumption) (by rfl) ?_ ?_
            rotate_left
            · (intro w hSw; (try dsimp only at hSw); go_simp) <;> (with_reducible rfl)
            (try simp only [Act.put, List.setIfInBounds_toArray, List.set_cons_zero, List.set_cons_succ])
            refine wpAnyH_pick 3 (v := ?_) rfl (by kernel_rfl) (by kernel_rfl) (by kernel_rfl) (fun _ _ _ h => h) (by assumption) (by rfl) ?_ ?_
            rotate_left
            · (intro w hSw; (try dsimp only at hSw); go_simp) <;> (with_reducible rfl)
            (try simp only [Act.put, List.setIfInBounds_toArray, List.set_cons_zero, List.set_cons_succ])
            refine wpAnyH_pick 4 (v := ?_) rfl (by kernel_rfl) (by kernel_rfl) (by kernel_rfl) (fun _ _ _ h => h) (by assumption) (by rfl) ?_ ?_
            rotate_left
            · (intro w hSw; (try dsimp only at hSw); go_simp) <;> (with_reducible rfl)
            (try simp only [Act.put, List.setIfInBounds_toArray, List.set_cons_zero, List.set_cons_succ])
            refine wpAnyH_pick 5 (v := ?_) rfl (by kernel_rfl) (by kernel_rfl) (by kernel_rfl) (fun _ _ _ h => h) (by assumption) (by rfl) ?_ ?_
            rotate_left
            · (intro w hSw; (try dsimp only at hSw); go_simp) <;> (with_reducible rfl)
            (try simp only [Act.put, List.setIfInBounds_toArray, List.set_cons_zero, List.set_cons_succ])
            refine wpAnyH_pick 6 (v := ?_) rfl (by kernel_rfl) (by kernel_rfl) (by kernel_rfl) (fun _ _ _ h => h) (by assumption) (by rfl) ?_ ?_
            rotate_left
            · (intro w hSw; (try dsimp only at hSw); go_simp) <;> (with_reducible rfl)
            (try simp only [Act.put, List.setIfInBounds_toArray, List.set_cons_zero, List.set_cons_succ])
            refine wpAnyH_pick 7 (v := ?_) rfl (by kernel_rfl) (by kernel_rfl) (by kernel_rfl) (fun _ _ _ h => h) (by assumption) (by rfl) ?_ ?_
            rotate_left
            · (intro w hSw; (try dsimp only at hSw); go_simp) <;> (with_reducible rfl)
            (try simp only [Act.put, List.setIfInBounds_toArray, List.set_cons_zero, List.set_cons_succ])
            refine wpAnyH_pick 8 (v := ?_) rfl (by kernel_rfl) (by kernel_rfl) (by kernel_rfl) (fun _ _ _ h => h) (by assumption) (by rfl) ?_ ?_
            rotate_left
            · (intro w hSw; (try dsimp only at hSw); go_simp) <;> (with_reducible rfl)
            (try simp only [Act.put, List.setIfInBounds_toArray, List.set_cons_zero, List.set_cons_succ])
            refine wpAnyH_pick 9 (v := ?_) rfl (by kernel_rfl) (by kernel_rfl) (by kernel_rfl) (fun _ _ _ h => h) (by assumption) (by rfl) ?_ ?_
            rotate_left
            · (intro w hSw; (try dsimp only at hSw); go_simp) <;> (with_reducible rfl)
            (try simp only [Act.put, List.setIfInBounds_toArray, List.set_cons_zero, List.set_cons_succ])
            refine wpAnyH_pick 10 (v := ?_) rfl (by kernel_rfl) (by kernel_rfl) (by kernel_rfl) (fun _ _ _ h => h) (by assumption) (by rfl) ?_ ?_
            rotate_left
            · (intro w hSw; (try dsimp only at hSw); go_simp) <;> (with_reducible rfl)
            (try simp only [Act.put, List.setIfInBounds_toArray, List.set_cons_zero, List.set_cons_succ])
            refine wpAnyH_pick 11 (v := ?_) rfl (by kernel_rfl) (by kernel_rfl) (by kernel_rfl) (fun _ _ _ h => h) (by assumption) (by rfl) ?_ ?_
            rotate_left
            · (intro w hSw; (try dsimp only at hSw); go_simp) <;> (with_reducible rfl)
            (try simp only [Act.put, List.setIfInBounds_toArray, List.set_cons_zero, List.set_cons_succ])
            refine wpAnyH_pick 12 (v := ?_) rfl (by kernel_rfl) (by kernel_rfl) (by kernel_rfl) (fun _ _ _ h => h) (by assumption) (by rfl) ?_ ?_
            rotate_left
            · (intro w hSw; (try dsimp only at hSw); go_simp) <;> (with_reducible rfl)
            (try simp only [Act.put, List.setIfInBounds_toArray, List.set_cons_zero, List.set_cons_succ])
            refine wpAnyH_pick 13 (v := ?_) rfl (by kernel_rfl) (by kernel_rfl) (by kernel_rfl) (fun _ _ _ h => h) (by assumption) (by rfl) ?_ ?_
            rotate_left
            · (intro w hSw; (try dsimp only at hSw); go_simp) <;> (with_reducible rfl)
            (try simp only [Act.put, List.setIfInBounds_toArray, List.set_cons_zero, List.set_cons_succ])
            refine wpAnyH_pick 14 (v := ?_) rfl (by kernel_rfl) (by kernel_rfl) (by kernel_rfl) (fun _ _ _ h => h) (by assumption) (by rfl) ?_ ?_
            rotate_left
            · (intro w hSw; (try dsimp only at hSw); go_simp) <;> (with_reducible rfl)
            (try simp only [Act.put, List.setIfInBounds_toArray, List.set_cons_zero, List.set_cons_succ])
            refine wpAnyH_pick 15 (v := ?_) rfl (by kernel_rfl) (by kernel_rfl) (by kernel_rfl) (fun _ _ _ h => h) (by assumption) (by rfl) ?_ ?_
            rotate_left
            · (intro w hSw; (try dsimp only at hSw); go_simp) <;> (with_reducible rfl)
            (try simp only [Act.put, List.setIfInBounds_toArray, List.set_cons_zero, List.set_cons_succ])
            refine wpAnyH_pick 16 (v := ?_) rfl (by kernel_rfl) (by kernel_rfl) (by kernel_rfl) (fun _ _ _ h => h) (by assumption) (by rfl) ?_ ?_
            rotate_left
            · (intro w hSw; (try dsimp only at hSw); go_simp) <;> (with_reducible rfl)
            (try simp only [Act.put, List.setIfInBounds_toArray, List.set_cons_zero, List.set_cons_succ])
            refine wpAnyH_pick 17 (v := ?_) rfl (by kernel_rfl) (by kernel_rfl) (by kernel_rfl) (fun _ _ _ h => h) (by assumption) (by rfl) ?_ ?_
            rotate_left
            · (intro w hSw; (try dsimp only at hSw); go_simp) <;> (with_reducible rfl)
            (try simp only [Act.put, List.setIfInBounds_toArray, List.set_cons_zero, List.set_cons_succ])
            refine wpAnyH_pick 18 (v := ?_) rfl (by kernel_rfl) (by kernel_rfl) (by kernel_rfl) (fun _ _ _ h => h) (by assumption) (by rfl) ?_ ?_
            rotate_left
            · (intro w hSw; (try dsimp only at hSw); go_simp) <;> (with_reducible rfl)
            (try simp only [Act.put, List.setIfInBounds_toArray, List.set_cons_zero, List.set_cons_succ])
            refine wpAnyH_pick 19 (v := ?_) rfl (by kernel_rfl) (by kernel_rfl) (by kernel_rfl) (fun _ _ _ h => h) (by assumption) (by rfl) ?_ ?_
            rotate_left
            · (intro w hSw; (try dsimp only at hSw); go_simp) <;> (with_reducible rfl)
            (try simp only [Act.put, List.setIfInBounds_toArray, List.set_cons_zero, List.set_cons_succ])
            refine wpAnyH_done (by kernel_rfl) ?_ _
            skip
            go_wp2_with fail
            go_ret
            exact ⟨rfl, HF6.out⟩

theorem flat7_law (Z : LiftSpec) (v : Int) (A : Option Addr) (c : Nat) (b : List Int) (w : World) (hs : Src w (.slice A b.length c) (b.map I64)) (hj : Js b) (hm : b.length ≤ 9223372036854775807) :
    Calls Try.prog 5 #[.slice A b.length c, .int .i64 v] w fun e w' => e = .returned (.bool true) ∧ Fr [] w w' := by
  by_cases h : (b.length = 16 ∨ b.length = 64) ∧ -524288 ≤ v ∧ v ≤ 524288
  · obtain ⟨h1 | h1, h2, h3⟩ := h
    · exact flat7_good Z v A c b w hs hj 2 (.inl rfl) (by omega) h2 h3
    · exact flat7_good Z v A c b w hs hj 3 (.inr rfl) (by omega) h2 h3
  · exact flat7_bad Z v A b.length c w hm h
end Go.Proofs.Ytednjpgibbnieaa

/-
  The statement LiftFlat out of the contracts.
-/
namespace Go.Proofs.Ytednjpgibbnieaa
open Go.ChangeShapes Go.WideShapes Go.ChangeAt Go.RowKit

set_option maxRecDepth 100000 in
theorem flat7_lifted (Z : LiftSpec) (os : Os) (started : os.Started) (H : Type) (enc : TypeId × Value → H) :
    ReturnsInHanded {} Try.checked os 5 .any (Rows.liftFlatSpec.pre6 enc Try.prog Try.f5 Rows.liftFlatRow.domain false) (Rows.liftFlatSpec.post enc Try.prog Try.f5 false true false false) := by
  refine law_lift (C := Try.checked) own_knob started (by kernel_rfl) Try.func5
    (ChangeSpec.witness6 (enc := enc) (C := Try.checked) false ⟨#[], #[.slice none 0 0, .int .i64 0], []⟩ 8 (by kernel_rfl) (by kernel_rfl) (by kernel_rfl) (by kernel_rfl))
    laid_out rfl rfl Try.underlying4 (of_decide_eq_true (by kernel_rfl)) ?_
  intro W base args ds before hval0 hA0 hlt
  have hval : ∀ (j : Nat) t v, Try.f5.params[j]? = some t → args[j]? = some v → Value.okWide Try.prog W .any base t v := hval0
  have hA : DataW.TrodAll enc Try.prog W 0 (fun _ => true) true Try.f5.params.toList args.toList ds before := hA0
  rw [Try.params5] at hA hval
  obtain ⟨v0, v1, d0, d1, p0, p1, rfl, rfl, -, ⟨fuel0, h0⟩, h1⟩ := trodAll_two hA
  obtain ⟨A0, l0, c0, rfl⟩ := okWide_slice Try.underlying22 (hval 0 _ _ rfl rfl)
  obtain ⟨S0, n0, k0, b0, e0, hb0, hn0, hs0, hj0⟩ := open_ints (v := .slice A0 l0 c0) h0
  rw [e0]
  simp only [maxLen] at hn0
  subst hb0
  obtain ⟨z1, rfl, -, -, wz1⟩ := open_int Try.underlying3 (hval 1 _ _ rfl rfl) h1
  simp [Lit.wf, IntKind.min, IntKind.max, IntKind.signed, IntKind.bits] at wz1
  have j1 : InI z1 := by unfold InI; omega
  exact ⟨rfl, (flat7_law Z z1 S0 k0 b0 W hs0 hj0 (by omega)).mono fun e W' ⟨he, hf⟩ => ⟨he, hf.below (by simp) (Nat.le_refl _)⟩⟩

theorem flat7_holds_of (Z : LiftSpec) : Rows.LiftFlatSaid :=
  OpenClaim.holds_of_wide 5 Try.f5 rfl rfl rfl rfl rfl rfl rfl ⟨rfl, rfl, rfl, rfl, rfl⟩ rfl rfl rfl rfl rfl (by kernel_rfl) Try.func5 (by kernel_rfl)
    (of_decide_eq_true (by kernel_rfl)) (by unfold Func.isWrapper; first | (rw [if_pos (by decide +kernel)]; kernel_rfl) | (rw [if_neg (by decide +kernel)]; exact ⟨rfl, rfl⟩))
    (fun os started H enc _ => flat7_lifted Z os started H enc)
end Go.Proofs.Ytednjpgibbnieaa

/-
  The law LiftFlat answers true whatever its input, and leaves its arguments as they were; no condition.
-/
namespace Go.Proofs.Ytednjpgibbnieaa
open Go.RowKit

theorem flat7_holds : Rows.LiftFlatSaid := flat7_holds_of liftI
#print axioms flat7_holds
end Go.Proofs.Ytednjpgibbnieaa
