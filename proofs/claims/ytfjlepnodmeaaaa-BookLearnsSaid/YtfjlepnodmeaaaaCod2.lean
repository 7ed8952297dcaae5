/-
  The program's encoder: New, add; conditions: the code fits.
-/
import Derived.Test.YtfjlepnodmeaaaaCod1
namespace Go.Proofs.Ytfjlepnodmeaaaa
open Go.RowKit

/-- The program's encoder: its bytes, in a row of its own, and the range. -/
def Pe (w : World) (p : Nat) (v : Value) (e : Enc) : Prop :=
  Blk w p 69 #[v, .int .u32 (e.r : Int)] ∧ Own w 5 v ((bytesOf e.n e.v).map B8) ∧ v.ownBlock ≠ some p

theorem four0 : [Value.int IntKind.u8 0, Value.int IntKind.u8 0, Value.int IntKind.u8 0, Value.int IntKind.u8 0] = ((bytesOf 4 0).map B8) := by rfl

theorem pnew_any (w : World) :
    Calls Try.prog 11 #[] w fun e w' => ∃ p v, e = .returned (.pointer (some ⟨p, 0, none⟩)) ∧ Pe w' p v encNew ∧ Fr [] w w' ∧ w.heap.size ≤ p ∧ ∀ k, v.ownBlock = some k → w.heap.size ≤ k := by
  obtain ⟨i, hi, hz, h1, h2⟩ := info_parts info_u8
  go_enter Try.func11, Try.ntmps11
  go_wp2_with (at_make; refine wpList_make_mine _ _ 37 5 i _ 1 _ _ 4 rfl rfl Try.underlying37 hi hz h1 h2 rfl rfl rfl (by omega) (by simp only [maxLen]; omega) ?_)
  intro w1 hO hF hlt
  have HO := Lib.hid hO
  have HF := Lib.hid hF
  clear hO hF
  go_wp2_with fail
  go_ret
  have hO := HO.out
  rw [four0] at hO
  refine ⟨w1.heap.size, .slice (some ⟨w.heap.size, 0, none⟩) 4 4, rfl, ⟨?_, hO.alloc _, ?_⟩, HF.out.alloc _, by omega, by simp [Value.ownBlock]⟩
  · exact Blk.new w1 69 #[Value.slice (some ⟨w.heap.size, 0, none⟩) 4 4, Value.int IntKind.u32 4294967295]
  · simp [Value.ownBlock]; omega

theorem Pe.form {w : World} {p : Nat} {v : Value} {e : Enc} (h : Pe w p v e) : ∃ g c, v = .slice g e.n c ∧ e.n ≤ c := by
  rcases h.2.1.form with ⟨rfl, h0⟩ | ⟨g, cap, cur, rfl, -, hc, -⟩
  · have := congrArg List.length h0
    simp at this
    exact ⟨none, 0, by rw [this], by omega⟩
  · exact ⟨_, _, by simp; exact ⟨rfl, rfl⟩, by simpa using hc⟩

set_option maxRecDepth 20000 in
set_option maxHeartbeats 4000000 in
theorem padd_any (p : Nat) (v : Value) (e : Enc) (n : Nat) (w : World) (h : Pe w p v e) (hn : e.v + n < 256 ^ e.n) (hl : e.n ≤ 1000000000) (hs : n ≤ 4294967295) :
    Calls Try.prog 67 #[.pointer (some ⟨p, 0, none⟩), .int .u32 (n : Int)] w fun e' w' => e' = .returned (.tuple #[]) ∧ Pe w' p v ⟨e.v + n, e.n, e.r⟩ ∧ Fr v.ownBlock.toList w w' := by
  obtain ⟨g, c, rfl, hgc⟩ := h.form
  obtain ⟨hB, hO, hne⟩ := h
  obtain ⟨ds, hds⟩ : ∃ ds, ds = bytesOf e.n e.v := ⟨_, rfl⟩
  have hdl : ds.length = e.n := by rw [hds, bytesOf_length]
  have hdv : valueOf ds = e.v := by rw [hds, valueOf_bytesOf, Nat.mod_eq_of_lt (by omega)]
  rw [← hds] at hO
  obtain ⟨L, hL⟩ : ∃ L, L = e.n := ⟨_, rfl⟩
  rw [← hL] at hdl hn hl hO hne hB ⊢
  have c0 := hB.cell 0
  have hlt := hB.lt
  simp at c0
  have ew : IntKind.u64.wrap (n : Int) = (n : Int) := IntWalk.u64_in _ (by omega)
  have Hds := Lib.hid hds; clear hds
  have Hdl := Lib.hid hdl; clear hdl
  have Hdv := Lib.hid hdv; clear hdv
  have HO := Lib.hid hO; clear hO
  have HB := Lib.hid hB; clear hB
  have Hne := Lib.hid hne; clear hne
  have Hn := Lib.hid hn; clear hn
  have HL := Lib.hid hL; clear hL
  go_enter Try.func67, Try.ntmps67
  go_wp2_with fail
  go_loopw [4, 5] (fun s4 s5 wr => ∃ (j cy : Nat) (xs : List UInt8), j ≤ L ∧ s5 = .int .i64 ((j : Int) - 1) ∧ s4 = .int .u64 (cy : Int) ∧ cy ≤ 4294967295 ∧ xs.length = L ∧ valueOf xs + cy * 256 ^ (L - j) = e.v + n ∧ Own wr 5 (.slice g L c) (xs.map B8) ∧ Blk wr p 69 #[.slice g L c, .int .u32 (e.r : Int)] ∧ Fr (Value.slice g L c).ownBlock.toList w wr) (fun _ s5 _ => (intOf s5 + 1).toNat)
  case atStart => exact ⟨L, n, ds, Nat.le_refl _, rfl, rfl, hs, Hdl.out, by rw [Nat.sub_self, Nat.pow_zero, Nat.mul_one, Hdv.out], HO.out, HB.out, Fr.refl _ _⟩
  case round =>
    obtain ⟨j, cy, xs, hj, rfl, rfl, hcy, hxl, hV, hO, hB, hF⟩ := hrel
    have Hxl := Lib.hid hxl; clear hxl
    have HV := Lib.hid hV; clear hV
    have HF := Lib.hid hF; clear hF
    have c1 := hB.cell 0
    simp at c1
    have hdone : (j = 0 ∨ cy = 0) → Pe wr p (.slice g L c) ⟨e.v + n, L, e.r⟩ := by
      intro hx
      have hval : valueOf xs = e.v + n := by
        have h1 := HV.out
        have h2 := Hn.out
        rcases hx with rfl | rfl
        · rw [Nat.sub_zero] at h1
          by_cases h0 : cy = 0
          · subst h0; omega
          · have : 1 * 256 ^ L ≤ cy * 256 ^ L := Nat.mul_le_mul_right _ (by omega)
            omega
        · omega
      refine ⟨hB, ?_, Hne.out⟩
      rw [← of_value Hxl.out hval]
      exact hO
    have HB2 := Lib.hid hB; clear hB
    by_cases hj0 : j = 0
    · subst hj0
      have hR := Lib.hid (hdone (.inl rfl)); clear hdone hO
      go_wp2_with fail
      go_end0
      exact ⟨rfl, hR.out, HF.out⟩
    · by_cases hc0 : cy = 0
      · subst hc0
        obtain ⟨k, rfl⟩ : ∃ k, j = k + 1 := ⟨j - 1, by omega⟩
        have hR := Lib.hid (hdone (.inr rfl)); clear hdone hO
        go_wp2_with fail
        go_end0
        exact ⟨rfl, hR.out, HF.out⟩
      · obtain ⟨k, rfl⟩ : ∃ k, j = k + 1 := ⟨j - 1, by omega⟩
        have e0 : decide ((0 : Int) < (cy : Int)) = true := by simp; omega
        clear hdone
        obtain ⟨g', rfl, c2, c3, -, -⟩ := hO.cell (j := k) (by simp; have := Hxl.out; omega)
        obtain ⟨x, hx⟩ : ∃ x, x = xs.getD k 0 := ⟨_, rfl⟩
        have hk : k < xs.length := by have := Hxl.out; omega
        have c4 : wr.cell? ⟨g', k, none⟩ = some (.int .u8 (x.toNat : Int)) := by
          rw [c2, List.getElem?_map, List.getElem?_eq_getElem hk, hx, List.getD_eq_getElem?_getD, List.getElem?_eq_getElem hk]; rfl
        have hxl := x.toNat_lt
        obtain ⟨V, hVV⟩ : ∃ V, V = cy + x.toNat := ⟨_, rfl⟩
        have eV : (cy : Int) + (x.toNat : Int) = (V : Int) := by omega
        obtain ⟨z, hz⟩ : ∃ z : UInt8, z = UInt8.ofNat (V % 256) := ⟨_, rfl⟩
        have hzn : z.toNat = V % 256 := by rw [hz]; simp
        have ex : IntKind.u64.wrap (x.toNat : Int) = (x.toNat : Int) := IntWalk.u64_in _ (by omega)
        have ew1 : IntKind.u64.wrap (V : Int) = (V : Int) := IntWalk.u64_in _ (by omega)
        have ez : (V : Int) % 256 = (z.toNat : Int) := by omega
        obtain ⟨cy', hcy'⟩ : ∃ cy', cy' = V / 256 := ⟨_, rfl⟩
        have ec : (V : Int) / 256 = (cy' : Int) := by omega
        have hsum : z.toNat + 256 * cy' = x.toNat + cy := by omega
        have hcl : cy' ≤ 4294967295 := by omega
        have h3 := hO.set k (B8 z)
        have hne : g' ≠ p := by have := Hne.out; simpa [Value.ownBlock] using this
        have hVn : valueOf (xs.set k z) + cy' * 256 ^ (L - k) = e.v + n := by
          have h1 := HV.out
          have h2 := valueOf_set xs k z hk
          rw [← hx, Hxl.out] at h2
          rw [show L - (k + 1) = L - 1 - k by omega] at h1
          rw [show L - k = (L - 1 - k) + 1 by omega, Nat.pow_succ]
          generalize 256 ^ (L - 1 - k) = P at h1 h2 ⊢
          have h4 : z.toNat * P + 256 * cy' * P = x.toNat * P + cy * P := by rw [← Nat.add_mul, hsum, Nat.add_mul]
          rw [show cy' * (P * 256) = 256 * cy' * P by rw [Nat.mul_comm P 256, ← Nat.mul_assoc, Nat.mul_comm cy' 256]]
          omega
        have H3 := Lib.hid h3
        have HVn := Lib.hid hVn
        have hVl : V ≤ 4294967550 := by omega
        clear h3 hVn hz hzn hVV hcy' hsum hx c2 hO
        go_wp2_with fail
        refine ⟨⟨k, cy', xs.set k z, by omega, by simp, rfl, hcl, by rw [List.length_set]; exact Hxl.out, HVn.out, ?_, HB2.out.far (by simp; omega) _, HF.out.setCell (.inl (by simp [Value.ownBlock])) _⟩, by simp [intOf]⟩
        have h5 := H3.out
        rw [← List.map_set] at h5
        exact h5

theorem Pe.span {w : World} {p : Nat} {v : Value} {e : Enc} (h : Pe w p v e) (r : Nat) : Pe (w.setCell ⟨p, 1, none⟩ (.int .u32 (r : Int))) p v ⟨e.v, e.n, r⟩ := by
  refine ⟨?_, h.2.1.fr (S := [p]) ((Fr.refl _ _).setCell (.inl (by simp)) _) (fun k hk hm => ?_), h.2.2⟩
  · have := h.1.set_ 1 (.int .u32 (r : Int))
    simpa using this
  · simp at hm; subst hm; exact h.2.2 hk

/-- What writing changes: the encoder's own cells, its row; the row is the same or new. -/
def PeFr (p : Nat) (v v' : Value) (w w' : World) : Prop := Fr (p :: v.ownBlock.toList) w w' ∧ (v'.ownBlock = v.ownBlock ∨ ∃ g, v'.ownBlock = some g ∧ w.heap.size ≤ g)

theorem pput_nil (w : World) (c : Nat) (bit : Int) : Calls Try.prog 57 #[.pointer none, .int .u16 (c : Int), .int .i64 bit] w fun r w' => r = .returned (.int .i64 1) ∧ Fr [] w w' := by
  go_enter Try.func57, Try.ntmps57
  go_wp2_with fail
  go_ret
  exact ⟨rfl, Fr.refl _ _⟩

theorem pput_bad (w : World) (p c : Nat) (bit : Int) (h : ¬ (rightC c ∧ (bit = 0 ∨ bit = 1))) :
    Calls Try.prog 57 #[pt p, .int .u16 (c : Int), .int .i64 bit] w fun r w' => r = .returned (.int .i64 1) ∧ Fr [] w w' := by
  by_cases hc : rightC c
  · have e0 : decide (rightC c) = true := decide_eq_true hc
    have h0 : bit ≠ 0 := fun e => h ⟨hc, .inl e⟩
    have h1 : bit ≠ 1 := fun e => h ⟨hc, .inr e⟩
    have e1 : (bit != 0) = true := by simp [h0]
    have e2 : (bit != 1) = true := by simp [h1]
    have HC := Lib.hid (isOne_any c w)
    clear h hc h0 h1
    go_enter Try.func57, Try.ntmps57
    go_wp2_with fail
    refine HC.out.mono ?_
    rintro e w' ⟨rfl, rfl⟩
    rw [e0]
    go_wp2_with fail
    go_ret
    exact ⟨rfl, Fr.refl _ _⟩
  · have e0 : decide (rightC c) = false := decide_eq_false hc
    have HC := Lib.hid (isOne_any c w)
    clear h hc
    go_enter Try.func57, Try.ntmps57
    go_wp2_with fail
    refine HC.out.mono ?_
    rintro e w' ⟨rfl, rfl⟩
    rw [e0]
    go_wp2_with fail
    go_ret
    exact ⟨rfl, Fr.refl _ _⟩

theorem Src.le {w : World} {A : Option Addr} {n c : Nat} {xs : List Value} (h : Src w (.slice A n c) xs) : n ≤ c := by
  rcases h with ⟨h1, rfl⟩ | ⟨ad, c', h1, hle, -⟩
  · injection h1 with e1 e2 e3
    subst e1 e2 e3
    exact Nat.le_refl _
  · injection h1 with e1 e2 e3
    subst e1 e2 e3
    exact hle
theorem Src.cut {w : World} {A : Option Addr} {n c : Nat} {xs : List Value} (h : Src w (.slice A n c) xs) : Src w (.slice A n n) xs := by
  rcases h with ⟨h1, rfl⟩ | ⟨ad, c', h1, hle, hx⟩
  · injection h1 with e1 e2 e3
    subst e1 e2 e3
    exact .inl ⟨rfl, rfl⟩
  · injection h1 with e1 e2 e3
    subst e1 e2 e3
    exact .inr ⟨ad, xs.length, rfl, Nat.le_refl _, hx⟩

theorem bytesNil_any (w : World) : Calls Try.prog 16 #[.pointer none] w fun r w' => r = .returned (.slice none 0 0) ∧ Fr [] w w' := by
  go_enter Try.func16, Try.ntmps16
  go_wp2_with fail
  go_ret
  exact ⟨rfl, Fr.refl _ _⟩

theorem pbytes_any (w : World) (p : Nat) (v : Value) (e : Enc) (h : Pe w p v e) (hl : 0 < e.n) (hn : e.n ≤ 100000) :
    Calls Try.prog 16 #[pt p] w fun r w' => ∃ u, r = .returned u ∧ Src w' u ((bytesOf e.n e.v).map B8) ∧ Fr [] w w' ∧ ∀ k, u.ownBlock = some k → w.heap.size ≤ k := by
  obtain ⟨g, c, rfl, hgc⟩ := h.form
  obtain ⟨hB, hO, hne⟩ := h
  have hcl := clone_any (.slice g e.n c) (bytesOf e.n e.v) w hO.src (by simp; omega) (by
    rcases hO.form with ⟨h0, h1⟩ | ⟨g1, cap, cur, h1, -⟩
    · have := congrArg List.length h1
      simp at this; omega
    · rw [h1]; simp [Value.ownBlock])
  have c0 := hB.cell 0
  have hlt := hB.lt
  simp at c0
  have HC := Lib.hid hcl
  obtain ⟨n, hN⟩ : ∃ n, n = e.n := ⟨_, rfl⟩
  rw [← hN] at c0 HC hn hgc hl ⊢
  have HN := Lib.hid hN
  clear hO hB hcl hN
  go_enter Try.func16, Try.ntmps16
  go_wp2_with fail
  refine HC.out.mono ?_
  rintro r w1 ⟨u, rfl, hM, hnn⟩
  obtain ⟨g2, c2, hform⟩ := hM.slice
  subst hform
  rw [bytesOf_length] at *
  have hc2 := hM.src.le
  go_wp2_with fail
  go_ret
  refine ⟨_, rfl, hM.src.cut, hM.fr, ?_⟩
  cases g2 with
  | none => simp [Value.ownBlock]
  | some a => exact fun k hk => hM.new k hk
end Go.Proofs.Ytfjlepnodmeaaaa
