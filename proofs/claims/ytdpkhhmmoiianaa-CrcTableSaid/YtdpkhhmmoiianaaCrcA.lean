/-
  The law's live question of layer 3; no condition.
-/
import Derived.Test.YtdpkhhmmoiianaaCrc3
import Derived.Lib.SlBytesConst
namespace Go.Proofs.Ytdpkhhmmoiianaa
open Go.RowKit

def nine : List UInt8 := [49, 50, 51, 52, 53, 54, 55, 56, 57]
theorem sum_nine : inv (run (inv 0#32) nine) = 3421780262#32 := by decide +kernel
theorem sum_none : inv (run (inv 0#32) []) = 0#32 := by decide +kernel
theorem tab_one : tab 1 = 1996959894#32 := by decide +kernel

theorem src_row {w : World} {g : Nat} {t : TypeId} {fr : Nat × Nat} {cs : Array Value} {n c : Nat} {xs : List Value} (h : w.heap[g]? = some (.cells cs t fr)) (hx : cs.toList = xs) (hn : n = xs.length) (hc : n ≤ c) :
    Src w (.slice (some ⟨g, 0, none⟩) n c) xs := by
  subst hx hn
  refine .inr ⟨⟨g, 0, none⟩, c, rfl, hc, fun j u hu => ?_⟩
  rw [add0, cell_of_row w g j cs t fr h]
  simpa using hu

theorem sumOf_nine (w : World) (src : Value) (hs : Src w src (nine.map B8)) :
    Calls Try.prog 10 #[src] w fun e w' => e = .returned (.int .u32 3421780262) ∧ Fr [] w w' := by
  have h := sum_any src nine w hs (by decide)
  rw [sum_nine] at h
  exact h
theorem sumOf_none (w : World) :
    Calls Try.prog 10 #[.slice none 0 0] w fun e w' => e = .returned (.int .u32 0) ∧ Fr [] w w' := by
  have h := sum_any (.slice none 0 0) [] w (.inl ⟨rfl, rfl⟩) (by decide)
  rw [sum_none] at h
  exact h
theorem index_arr {n : Nat} (f : Nat → W32) (i : Nat) (hi : i < n) (hn : (n : Int) < 9223372036854775808) {t : TypeId} (hu : Try.prog.underlying t = some (.array n 23)) (w : World) : (Instr.index t (.agg (arr n f)) (.int .i64 (i : Int))).run Try.prog w = .ok (V32 (f i)) w := by
  have h0 : (0 : Int) ≤ i := by omega
  simp [Instr.index, run_underlying hu, go_sem, h0]
  rw [if_pos hi, arr_get _ hi]
  rfl

set_option maxRecDepth 20000 in
theorem alive3_any (w : World) :
    Calls Try.prog 9 #[] w fun e w' => e = .returned (.bool true) ∧ Fr [] w w' := by
  have kc := fun (w : World) (C : Array Value) (n c : Nat) => Lib.run_convert_bytes_const (P := Try.prog) w 22 5 C n c Try.underlying22 Try.underlying5
  have hix : ∀ w, (Instr.index 28 (.agg (arr 256 tab)) (.int .i64 1)).run Try.prog w = .ok (.int .u32 1996959894) w := fun w => by
    have h := index_arr (n := 256) tab 1 (by omega) (by omega) und256 w
    rw [tab_one] at h
    exact h
  go_enter Try.func9, Try.ntmps9
  go_wp2_with fail
  generalize hw : w.alloc _ = w1
  have hF : Fr [] w w1 := by rw [← hw]; exact (Fr.refl _ _).alloc _
  have hS : Src w1 (.slice (some ⟨w.heap.size, 0, none⟩) 9 9) (nine.map B8) := by
    rw [← hw]
    exact src_row (heap_alloc_new _ _) rfl rfl (by decide)
  refine (sumOf_nine w1 _ hS).mono ?_
  clear hw hS kc
  rintro e w2 ⟨rfl, hF2⟩
  have HF2 := Lib.hid (hF.trans hF2 (by simp)); clear hF hF2
  go_wp2_with fail
  refine (sumOf_none _).mono ?_
  rintro e w3 ⟨rfl, hF3⟩
  have HF3 := Lib.hid (HF2.out.trans hF3 (by simp)); clear HF2 hF3
  go_wp2_with fail
  refine (table_any _).mono ?_
  rintro e w4 ⟨rfl, hF4⟩
  have HF4 := Lib.hid (HF3.out.trans hF4 (by simp)); clear HF3 hF4
  go_wp2_with fail
  go_ret
  exact ⟨rfl, HF4.out⟩
end Go.Proofs.Ytdpkhhmmoiianaa
