/-
  The law CrcTable answers true whatever its input, and leaves its arguments as they were; no condition.
-/
import Derived.Test.YtdpkhhmmoiianaaRef3d
import Derived.Test.YtdpkhhmmoiianaaRow
import Derived.Test.YtdpkhhmmoiianaaActs
namespace Go.Proofs.Ytdpkhhmmoiianaa
open Go.ChangeShapes Go.WideShapes Go.ChangeAt Go.RowKit

theorem rentry_at (m : Nat) (h : m < 256) (w : World) : Calls Try.prog 15 #[.int .i64 (m : Int)] w fun e w' => e = .returned (V32 (tab m)) ∧ Fr [] w w' := by
  have e : (UInt8.ofNat m).toNat = m := by simp [Nat.mod_eq_of_lt h]
  have := rentry_any (m : Int) (UInt8.ofNat m) w (by rw [e])
  rw [e] at this
  exact this

set_option maxRecDepth 20000 in
set_option maxHeartbeats 4000000 in
theorem ltable_any (a : Int) (w : World) (h1 : -9223372036854775808 ≤ a) (h2 : a ≤ 9223372036854775807) :
    Calls Try.prog 4 #[.int .i64 a] w fun e w' => e = .returned (.bool true) ∧ Fr [] w w' := by
  have z := (zero_of_info zero256).1
  have hi : (Try.prog.info? 28).map (·.size) = some (arr 256 tab).size := by rw [arr_size]; exact (zero_of_info zero256).2
  obtain ⟨k, hk⟩ : ∃ k, k = a.tmod 256 := ⟨_, rfl⟩
  have hcase : (k < 0 ∧ ∃ m : Nat, m < 256 ∧ k + 256 = (m : Int)) ∨ (∃ m : Nat, m < 256 ∧ k = (m : Int)) := by
    have h3 : k < 256 := by rw [hk]; exact Int.tmod_lt_of_pos a (by omega)
    have h4 : -256 < k := by
      rcases (show a < 0 ∨ 0 ≤ a by omega) with h | h
      · have h5 := Int.tmod_lt_of_pos (-a) (show (0 : Int) < 256 by omega)
        rw [Int.neg_tmod] at h5
        omega
      · have h5 := Int.tmod_nonneg 256 h
        omega
    rcases (show k < 0 ∨ 0 ≤ k by omega) with h | h
    · exact .inl ⟨h, (k + 256).toNat, by omega, by omega⟩
    · exact .inr ⟨k.toNat, by omega, by omega⟩
  have ek : a.tmod 256 = k := hk.symm
  clear hk
  rcases hcase with ⟨hneg, m, hm, em⟩ | ⟨m, hm, rfl⟩
  all_goals
    go_enter Try.func4, Try.ntmps4
    go_wp2_with fail
    refine (table_any w).mono ?_
    rintro e w1 ⟨rfl, hF1⟩
    have HF1 := Lib.hid hF1; clear hF1
    go_wp2_with (refine wpList_store_row rfl 28 _ _ rfl w1.heap.size _ rfl rfl 28 (Array.replicate 256 (Value.int IntKind.u32 0)) (heap_alloc_new _ _) hi (by rw [arr_size]; simp) (arr_one _ _) ?_)
    rw [World.setRow_alloc_new]
    generalize hw : w1.alloc (.cells (arr 256 tab) 28) = w2
    have hB : Blk w2 w1.heap.size 28 (arr 256 tab) := by rw [← hw]; exact Blk.new _ _ _
    have hF : Fr [] w w2 := by rw [← hw]; exact HF1.out.alloc _
    have HF := Lib.hid hF; clear hF hw HF1
    generalize hp : w1.heap.size = p at hB ⊢
    clear hp hi z
    have HE := Lib.hid (fun W => rentry_at m hm W)
    have c0 := hB.drew.cell m
    rw [arr_get _ hm] at c0
    have hBd := Lib.hid hB.drew; clear hB
    have hmI : (m : Int) < 256 := by omega
    generalize tab m = T at HE c0
    (try go_upto_region 5 with fail)
    refine wp_region_held_drew (S := fun W => W.cell? ⟨p, m, none⟩ = some (V32 T)) (by kernel_rfl) ?_ (fun hHeld => ?_)
    · (repeat' (first | trivial | assumption | refine ⟨?_, ?_⟩))
    refine wpAnyH_ready (rs := [0]) (by kernel_rfl) (by simp) ?_
    refine AllReadyH_pick rfl (fun K hK => ?_) (AllReadyH.nil)
    go_simp
    refine (alive3_any _).mono ?_
    rintro e wL ⟨rfl, fL⟩
    have cL : wL.cell? ⟨p, m, none⟩ = some (V32 T) := by rw [fL.cell (p := ⟨p, m, none⟩) hBd.out.lt (by simp)]; exact c0
    have HBL := Lib.hid (hBd.out.fr fL (by simp))
    have HFL := Lib.hid (HF.out.drew.trans fL (by simp))
    clear fL
    go_wp2_with fail
    refine hK.out _ _ ?_ (fun hHeld => ?_)
    · (repeat' (first | trivial | assumption | refine ⟨?_, ?_⟩))
    clear hK K
    (try simp only [Act.put, List.setIfInBounds_toArray, List.set_cons_zero, List.set_cons_succ])
    refine wpAnyH_pick 1 (v := ?_) rfl (by kernel_rfl) (by kernel_rfl) (by kernel_rfl) (fun _ _ _ h => h) (by assumption) (by rfl) ?_ ?_
    rotate_left
    · (intro w hSw; (try dsimp only at hSw); go_simp) <;> (with_reducible rfl)
    (try simp only [Act.put, List.setIfInBounds_toArray, List.set_cons_zero, List.set_cons_succ])
    refine wpAnyH_pick 2 (v := ?_) rfl (by kernel_rfl) (by kernel_rfl) (by kernel_rfl) (fun _ _ _ h => h) (by assumption) (by rfl) ?_ ?_
    rotate_left
    · (intro w hSw; (try dsimp only at hSw); go_simp) <;> (with_reducible rfl)
    (try simp only [Act.put, List.setIfInBounds_toArray, List.set_cons_zero, List.set_cons_succ])
    refine wpAnyH_pick 3 (v := ?_) rfl (by kernel_rfl) (by kernel_rfl) (by kernel_rfl) (fun _ _ _ h => h) (by assumption) (by rfl) ?_ ?_
    rotate_left
    · (intro w hSw; (try dsimp only at hSw); go_simp) <;> (with_reducible rfl)
    (try simp only [Act.put, List.setIfInBounds_toArray, List.set_cons_zero, List.set_cons_succ])
    refine wpAnyH_pick 4 (v := ?_) rfl (by kernel_rfl) (by kernel_rfl) (by kernel_rfl) (fun _ _ _ h => h) (by assumption) (by rfl) ?_ ?_
    rotate_left
    · (intro w hSw; (try dsimp only at hSw); go_simp) <;> (with_reducible rfl)
    (try simp only [Act.put, List.setIfInBounds_toArray, List.set_cons_zero, List.set_cons_succ])
    refine wpAnyH_pick 5 (v := ?_) rfl (by kernel_rfl) (by kernel_rfl) (by kernel_rfl) (fun _ _ _ h => h) (by assumption) (by rfl) ?_ ?_
    rotate_left
    · (intro w hSw; (try dsimp only at hSw); go_simp) <;> (with_reducible rfl)
    (try simp only [Act.put, List.setIfInBounds_toArray, List.set_cons_zero, List.set_cons_succ])
    refine wpAnyH_ready (rs := [6]) (by kernel_rfl) (by simp) ?_
    refine AllReadyH_pick rfl (fun K hK => ?_) (AllReadyH.nil)
    go_simp
    refine (HE.out _).mono ?_
    rintro e wE ⟨rfl, fE⟩
    have cE : wE.cell? ⟨p, m, none⟩ = some (V32 T) := by rw [fE.cell (p := ⟨p, m, none⟩) HBL.out.lt (by simp)]; exact cL
    have HFE := Lib.hid (HFL.out.trans fE (by simp))
    clear fE
    go_wp2_with fail
    refine hK.out _ _ ?_ (fun hHeld => ?_)
    · (repeat' (first | trivial | assumption | refine ⟨?_, ?_⟩))
    clear hK K
    (try simp only [Act.put, List.setIfInBounds_toArray, List.set_cons_zero, List.set_cons_succ])
    refine wpAnyH_pick 7 (v := ?_) rfl (by kernel_rfl) (by kernel_rfl) (by kernel_rfl) (fun _ _ _ h => h) (by assumption) (by rfl) ?_ ?_
    rotate_left
    · (intro w hSw; (try dsimp only at hSw); go_simp) <;> (with_reducible rfl)
    (try simp only [Act.put, List.setIfInBounds_toArray, List.set_cons_zero, List.set_cons_succ])
    refine wpAnyH_pick 8 (v := ?_) rfl (by kernel_rfl) (by kernel_rfl) (by kernel_rfl) (fun _ _ _ h => h) (by assumption) (by rfl) ?_ ?_
    rotate_left
    · (intro w hSw; (try dsimp only at hSw); go_simp) <;> (with_reducible rfl)
    (try simp only [Act.put, List.setIfInBounds_toArray, List.set_cons_zero, List.set_cons_succ])
    refine wpAnyH_pick 9 (v := ?_) rfl (by kernel_rfl) (by kernel_rfl) (by kernel_rfl) (fun _ _ _ h => h) (by assumption) (by rfl) ?_ ?_
    rotate_left
    · (intro w hSw; (try dsimp only at hSw); go_simp) <;> (with_reducible rfl)
    (try simp only [Act.put, List.setIfInBounds_toArray, List.set_cons_zero, List.set_cons_succ])
    refine wpAnyH_done (by kernel_rfl) ?_ _
    go_wp2_with fail
    go_ret
    exact ⟨rfl, HFE.out⟩

set_option maxRecDepth 100000 in
theorem table_lifted (os : Os) (started : os.Started) (H : Type) (enc : TypeId × Value → H) :
    ReturnsInHanded {} Try.checked os 4 .any (Rows.crcTableSpec.pre6 enc Try.prog Try.f4 Rows.crcTableRow.domain false) (Rows.crcTableSpec.post enc Try.prog Try.f4 false true false false) := by
  refine law_lift (C := Try.checked) own_knob started (by kernel_rfl) Try.func4
    (ChangeSpec.witness6 (enc := enc) (C := Try.checked) false ⟨#[], #[.int .i64 0], []⟩ 8 (by kernel_rfl) (by kernel_rfl) (by kernel_rfl) (by kernel_rfl))
    laid_out rfl rfl Try.underlying4 (of_decide_eq_true (by kernel_rfl)) ?_
  intro W base args ds before hval0 hA0 hlt
  have hval : ∀ (j : Nat) t v, Try.f4.params[j]? = some t → args[j]? = some v → Value.okWide Try.prog W .any base t v := hval0
  have hA : DataW.TrodAll enc Try.prog W 0 (fun _ => true) true Try.f4.params.toList args.toList ds before := hA0
  rw [Try.params4] at hA hval
  obtain ⟨v0, d0, rfl, rfl, h0⟩ := trodAll_one hA
  obtain ⟨a, rfl, -, -, wa⟩ := open_int Try.underlying3 (hval 0 _ _ rfl rfl) h0
  simp [Lit.wf, IntKind.min, IntKind.max, IntKind.signed, IntKind.bits] at wa
  exact ⟨rfl, (ltable_any a W (by omega) (by omega)).mono fun e W' ⟨he, hf⟩ => ⟨he, hf.below (by simp) (Nat.le_refl _)⟩⟩

theorem table_holds : Rows.CrcTableSaid :=
  OpenClaim.holds_of_wide 4 Try.f4 rfl rfl rfl rfl rfl rfl rfl ⟨rfl, rfl, rfl, rfl, rfl⟩ rfl rfl rfl rfl rfl (by kernel_rfl) Try.func4 (by kernel_rfl)
    (of_decide_eq_true (by kernel_rfl)) (by unfold Func.isWrapper; first | (rw [if_pos (by decide +kernel)]; kernel_rfl) | (rw [if_neg (by decide +kernel)]; exact ⟨rfl, rfl⟩))
    (fun os started H enc _ => table_lifted os started H enc)
#print axioms table_holds
end Go.Proofs.Ytdpkhhmmoiianaa
