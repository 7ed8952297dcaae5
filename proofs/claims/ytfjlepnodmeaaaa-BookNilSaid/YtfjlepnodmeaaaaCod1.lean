/-
  Contracts of the program's coder: isOne, bound, isNarrow, Next, bytes.Clone; conditions: the widths are below 2^32.
-/
import Derived.Test.YtfjlepnodmeaaaaCodSpec
import Derived.Lib.SliceRun
namespace Go.Proofs.Ytfjlepnodmeaaaa
open Go.RowKit

theorem isOne_any (c : Nat) (w : World) :
    Calls Try.prog 65 #[.int .u16 (c : Int)] w fun e w' => e = .returned (.bool (decide (rightC c))) ∧ w' = w := by
  by_cases h1 : 31 ≤ c
  · have e1 : decide ((31 : Int) ≤ (c : Int)) = true := by simp; omega
    by_cases h2 : c ≤ 2017
    · have e2 : decide ((c : Int) ≤ 2017) = true := by simp; omega
      have e3 : decide (rightC c) = true := decide_eq_true ⟨h1, h2⟩
      go_enter Try.func65, Try.ntmps65
      go_wp2_with fail
      go_ret
      exact ⟨by rw [e3]; rfl, rfl⟩
    · have e2 : decide ((c : Int) ≤ 2017) = false := by simp; omega
      have e3 : decide (rightC c) = false := decide_eq_false fun h => h2 h.2
      go_enter Try.func65, Try.ntmps65
      go_wp2_with fail
      go_ret
      exact ⟨by rw [e3]; rfl, rfl⟩
  · have e1 : decide ((31 : Int) ≤ (c : Int)) = false := by simp; omega
    have e3 : decide (rightC c) = false := decide_eq_false fun h => h1 h.1
    go_enter Try.func65, Try.ntmps65
    go_wp2_with fail
    go_ret
    exact ⟨by rw [e3]; rfl, rfl⟩

theorem bound_any (c r : Nat) (w : World) (hc : rightC c) (hr : 16777216 ≤ r) (hr2 : r ≤ 4294967295) :
    Calls Try.prog 66 #[.int .u16 (c : Int), .int .u32 (r : Int)] w fun e w' => e = .returned (.int .u32 (bnd r c : Int)) ∧ w' = w := by
  obtain ⟨B, hB⟩ : ∃ B, B = bnd r c := ⟨_, rfl⟩
  have hb2 := bnd_hi hr hc
  rw [← hB] at hb2 ⊢
  have eB : (r : Int) / 2048 * (c : Int) = (B : Int) := by rw [hB]; unfold bnd; simp
  have e1 : IntKind.wrap .u32 (c : Int) = (c : Int) := IntWalk.u32_in _ (by have := hc.2; omega)
  have e2 : IntKind.wrap .u32 (B : Int) = (B : Int) := IntWalk.u32_in _ (by omega)
  clear hB hb2
  go_enter Try.func66, Try.ntmps66
  go_wp2_with fail
  go_ret
  exact ⟨rfl, rfl⟩

theorem isNarrow_any (r : Nat) (w : World) :
    Calls Try.prog 68 #[.int .u32 (r : Int)] w fun e w' => e = .returned (.bool (decide (r < 16777216))) ∧ w' = w := by
  by_cases h1 : r < 16777216
  · have e1 : decide ((r : Int) < 16777216) = true := by simp; omega
    rw [decide_eq_true h1]
    go_enter Try.func68, Try.ntmps68
    go_wp2_with fail
    go_ret
    exact ⟨rfl, rfl⟩
  · have e1 : decide ((r : Int) < 16777216) = false := by simp; omega
    rw [decide_eq_false h1]
    go_enter Try.func68, Try.ntmps68
    go_wp2_with fail
    go_ret
    exact ⟨rfl, rfl⟩

theorem next_any : NextSpec := by
  intro w c bit hc hb1 hb2
  obtain ⟨y, hy⟩ : ∃ y, y = nextC c (bit != 0) := ⟨_, rfl⟩
  have hyr : rightC y := by rw [hy]; exact nextC_right _ _
  have hyl := hyr.2
  rw [← hy]
  have HY := Lib.hid hy; clear hy hyr
  by_cases hb : bit = 0
  · have eb : (bit == 0) = true := by simp [hb]
    have HB := Lib.hid (show (bit != 0) = false by simp [hb]); clear hb
    go_enter Try.func58, Try.ntmps58
    go_wp2_with fail
    all_goals
      go_ret
      refine ⟨?_, Fr.refl _ _⟩
      have hy := HY.out
      unfold nextC clampC at hy
      rw [HB.out, if_neg (by simp)] at hy
      first
        | (refine congrArg (fun z => Ending.returned (Value.int .u16 z)) (?_ : _ = (y : Int)); omega)
        | (exfalso; simp_all <;> omega)
  · have eb : (bit == 0) = false := by simp [hb]
    have HB := Lib.hid (show (bit != 0) = true by simp [hb]); clear hb
    go_enter Try.func58, Try.ntmps58
    go_wp2_with fail
    all_goals
      go_ret
      refine ⟨?_, Fr.refl _ _⟩
      have hy := HY.out
      unfold nextC clampC at hy
      rw [HB.out, if_pos rfl] at hy
      first
        | (refine congrArg (fun z => Ending.returned (Value.int .u16 z)) (?_ : _ = (y : Int)); omega)
        | (exfalso; simp_all <;> omega)

theorem clone_any (src : Value) (xs : List UInt8) (w : World) (hs : Src w src (xs.map B8)) (hn : xs.length ≤ 1000000000000) (hne : src.ownBlock ≠ none) :
    Calls Try.prog 33 #[src] w fun e w' => ∃ u, e = .returned u ∧ Mine w w' u xs ∧ u.ownBlock ≠ none := by
  obtain ⟨ad, c, rfl⟩ : ∃ ad c, src = .slice (some ad) xs.length c := by
    rcases hs with ⟨rfl, h0⟩ | ⟨ad, c, rfl, -⟩
    · simp [Value.ownBlock] at hne
    · exact ⟨ad, c, by simp⟩
  obtain ⟨n, hnn⟩ : ∃ n, n = xs.length := ⟨_, rfl⟩
  rw [← hnn] at hs hn ⊢
  have HS := Lib.hid hs
  have Hn := Lib.hid hnn
  clear hs hnn hne
  have q : ∀ (w : World) (a : Option Addr) (n c n' c' : Nat), (binOp .eql 37 (.slice a n c) (.slice none n' c')).run Try.prog w = .ok (.bool a.isNone) w := fun w a n c n' c' => Lib.run_eql_slice_nil w _ _ a n c n' c' Try.underlying37
  go_enter Try.func33, Try.ntmps33
  go_wp2_with (at_builtin; refine wp_append_u8 _ _ (.slice (some ⟨w.heap.size, 0, none⟩) 0 0) [] (.slice (some ad) n c) xs rfl rfl rfl rfl (Own.lit w 5 #[] 0 rfl (by simp [maxLen])) (HS.out.fr0 ((Fr.refl _ _).alloc _)) (by simp; have := Hn.out; omega) ?_)
  intro vo w1 hO hG
  have hM := Mine.copied (w0 := w) (w := w) hO hG (Fr.refl _ _)
  have hne : vo.ownBlock ≠ none := by
    rcases hG.2 with e | ⟨g, e, -⟩
    · rw [e]; simp [Value.ownBlock]
    · rw [e]; simp
  have HM := Lib.hid hM
  clear hM hO hG
  go_wp2_with fail
  go_ret
  exact ⟨_, rfl, HM.out, hne⟩
end Go.Proofs.Ytfjlepnodmeaaaa
