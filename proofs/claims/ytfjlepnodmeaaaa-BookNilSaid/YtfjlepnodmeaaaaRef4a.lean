/-
  Contracts of the document's coder of layer 4: Right, Next, New, add; conditions: the code fits.
-/
import Derived.Test.YtfjlepnodmeaaaaBits3
import Derived.Test.YtfjlepnodmeaaaaCodPlain
import Derived.Test.YtfjlepnodmeaaaaZero
namespace Go.Proofs.Ytfjlepnodmeaaaa
open Go.RowKit

theorem rright_any (c : Nat) (w : World) :
    Calls Try.prog 69 #[.int .i64 (c : Int)] w fun e w' => e = .returned (.bool (decide (rightC c))) ∧ w' = w := by
  by_cases h1 : 31 ≤ c
  · have e1 : decide ((31 : Int) ≤ (c : Int)) = true := by simp; omega
    by_cases h2 : c ≤ 2017
    · have e2 : decide ((c : Int) ≤ 2017) = true := by simp; omega
      have e3 : decide (rightC c) = true := decide_eq_true ⟨h1, h2⟩
      go_enter Try.func69, Try.ntmps69
      go_wp2_with fail
      go_ret
      exact ⟨by rw [e3]; rfl, rfl⟩
    · have e2 : decide ((c : Int) ≤ 2017) = false := by simp; omega
      have e3 : decide (rightC c) = false := decide_eq_false fun h => h2 h.2
      go_enter Try.func69, Try.ntmps69
      go_wp2_with fail
      go_ret
      exact ⟨by rw [e3]; rfl, rfl⟩
  · have e1 : decide ((31 : Int) ≤ (c : Int)) = false := by simp; omega
    have e3 : decide (rightC c) = false := decide_eq_false fun h => h1 h.1
    go_enter Try.func69, Try.ntmps69
    go_wp2_with fail
    go_ret
    exact ⟨by rw [e3]; rfl, rfl⟩

theorem rnext_any (c : Nat) (bit : Int) (w : World) (hc : c ≤ 65535) :
    Calls Try.prog 60 #[.int .i64 (c : Int), .int .i64 bit] w fun e w' => e = .returned (.int .i64 (nextC c (bit != 0) : Int)) ∧ w' = w := by
  obtain ⟨y, hy⟩ : ∃ y, y = nextC c (bit != 0) := ⟨_, rfl⟩
  rw [← hy]
  unfold nextC clampC at hy
  by_cases hb : bit = 0
  · have eb : (bit == 0) = true := by simp [hb]
    rw [show (bit != 0) = false by simp [hb], if_neg (by simp)] at hy
    have HY := Lib.hid hy; clear hy hb
    go_enter Try.func60, Try.ntmps60
    go_wp2_with fail
    all_goals
      go_ret
      refine ⟨?_, rfl⟩
      have hy := HY.out
      first
        | (refine congrArg (fun z => Ending.returned (Value.int .i64 z)) (?_ : _ = (y : Int)); omega)
        | (exfalso; simp_all <;> omega)
  · have eb : (bit == 0) = false := by simp [hb]
    rw [show (bit != 0) = true by simp [hb], if_pos rfl] at hy
    have HY := Lib.hid hy; clear hy hb
    go_enter Try.func60, Try.ntmps60
    go_wp2_with fail
    all_goals
      go_ret
      refine ⟨?_, rfl⟩
      have hy := HY.out
      first
        | (refine congrArg (fun z => Ending.returned (Value.int .i64 z)) (?_ : _ = (y : Int)); omega)
        | (exfalso; simp_all <;> omega)

def I8 (b : UInt8) : Value := .int .i64 (b.toNat : Int)

/-- The document's encoder: its digits, in a row of its own, and the range. -/
def Re (w : World) (p : Nat) (v : Value) (e : Enc) : Prop :=
  Blk w p 72 #[v, .int .i64 (e.r : Int)] ∧ Own w 3 v ((bytesOf e.n e.v).map I8) ∧ v.ownBlock ≠ some p
/-- What writing changes: the encoder's own cells, its row; the row is the same or new. -/
def ReFr (p : Nat) (v v' : Value) (w w' : World) : Prop := Fr (p :: v.ownBlock.toList) w w' ∧ (v'.ownBlock = v.ownBlock ∨ ∃ g, v'.ownBlock = some g ∧ w.heap.size ≤ g)

theorem rnew_any (w : World) :
    Calls Try.prog 12 #[] w fun e w' => ∃ p v, e = .returned (.pointer (some ⟨p, 0, none⟩)) ∧ Re w' p v encNew ∧ Fr [] w w' ∧ w.heap.size ≤ p ∧ ∀ k, v.ownBlock = some k → w.heap.size ≤ k := by
  go_enter Try.func12, Try.ntmps12
  go_wp2_with fail
  go_ret
  refine ⟨w.heap.size + 1, .slice (some ⟨w.heap.size, 0, none⟩) 4 4, rfl, ⟨?_, ?_, ?_⟩, ((Fr.refl _ _).alloc _).alloc _, by omega, by simp [Value.ownBlock]⟩
  · have h := Blk.new (w.alloc (Obj.cells #[Value.int IntKind.i64 0, Value.int IntKind.i64 0, Value.int IntKind.i64 0, Value.int IntKind.i64 0] 3)) 72 #[Value.slice (some ⟨w.heap.size, 0, none⟩) 4 4, Value.int IntKind.i64 4294967295]
    rw [World.size_alloc] at h
    exact h
  · exact (Own.lit w 3 #[Value.int IntKind.i64 0, Value.int IntKind.i64 0, Value.int IntKind.i64 0, Value.int IntKind.i64 0] 4 rfl (by simp [maxLen])).alloc _
  · simp [Value.ownBlock]

theorem carry_step {v n P B c : Nat} (h : v + c * (256 * P) = n) (hB : B < 256) : (B + c % 256) / 256 + c / 256 ≤ c := by
  omega

set_option maxRecDepth 20000 in
set_option maxHeartbeats 4000000 in
theorem radd_any (p : Nat) (v : Value) (e : Enc) (n : Nat) (w : World) (h : Re w p v e) (hn : e.v + n < 256 ^ e.n) (hl : e.n ≤ 1000000000) (hs : n ≤ 1099511627776) :
    Calls Try.prog 70 #[.pointer (some ⟨p, 0, none⟩), .int .i64 (n : Int)] w fun e' w' => e' = .returned (.tuple #[]) ∧ Re w' p v ⟨e.v + n, e.n, e.r⟩ ∧ Fr v.ownBlock.toList w w' := by
  obtain ⟨hB, hO, hne⟩ := h
  obtain ⟨ds, hds⟩ : ∃ ds, ds = bytesOf e.n e.v := ⟨_, rfl⟩
  have hdl : ds.length = e.n := by rw [hds, bytesOf_length]
  have hdv : valueOf ds = e.v := by rw [hds, valueOf_bytesOf, Nat.mod_eq_of_lt (by omega)]
  rw [← hds] at hO
  obtain ⟨g, c, rfl⟩ : ∃ g c, v = .slice g e.n c := by
    rcases hO.form with ⟨rfl, h0⟩ | ⟨g, cap, cur, rfl, -⟩
    · have := congrArg List.length h0
      simp at this
      exact ⟨none, 0, by rw [← hdl, this]; rfl⟩
    · exact ⟨_, _, by simp [hdl]; exact ⟨rfl, rfl⟩⟩
  obtain ⟨L, hL⟩ : ∃ L, L = e.n := ⟨_, rfl⟩
  rw [← hL] at hdl hn hl hO hne hB ⊢
  have c0 := hB.cell 0
  have hlt := hB.lt
  simp at c0
  have Hds := Lib.hid hds; clear hds
  have Hdl := Lib.hid hdl; clear hdl
  have Hdv := Lib.hid hdv; clear hdv
  have HO := Lib.hid hO; clear hO
  have HB := Lib.hid hB; clear hB
  have Hne := Lib.hid hne; clear hne
  have Hn := Lib.hid hn; clear hn
  have HL := Lib.hid hL; clear hL
  go_enter Try.func70, Try.ntmps70
  go_wp2_with fail
  go_loopw [4, 5] (fun s4 s5 wr => ∃ (j cy : Nat) (xs : List UInt8), j ≤ L ∧ s5 = .int .i64 ((j : Int) - 1) ∧ s4 = .int .i64 (cy : Int) ∧ cy ≤ 1099511627776 ∧ xs.length = L ∧ valueOf xs + cy * 256 ^ (L - j) = e.v + n ∧ Own wr 3 (.slice g L c) (xs.map I8) ∧ Blk wr p 72 #[.slice g L c, .int .i64 (e.r : Int)] ∧ Fr (Value.slice g L c).ownBlock.toList w wr) (fun _ s5 _ => (intOf s5 + 1).toNat)
  case atStart => exact ⟨L, n, ds, Nat.le_refl _, rfl, rfl, hs, Hdl.out, by rw [Nat.sub_self, Nat.pow_zero, Nat.mul_one, Hdv.out], HO.out, HB.out, Fr.refl _ _⟩
  case round =>
    obtain ⟨j, cy, xs, hj, rfl, rfl, hcy, hxl, hV, hO, hB, hF⟩ := hrel
    have Hxl := Lib.hid hxl; clear hxl
    have HV := Lib.hid hV; clear hV
    have HF := Lib.hid hF; clear hF
    have c1 := hB.cell 0
    simp at c1
    have hdone : (j = 0 ∨ cy = 0) → Re wr p (.slice g L c) ⟨e.v + n, L, e.r⟩ := by
      intro hx
      have hval : valueOf xs = e.v + n := by
        have h1 := HV.out
        have h2 := Hn.out
        rcases hx with rfl | rfl
        · rw [Nat.sub_zero] at h1
          by_cases h0 : cy = 0
          · subst h0; omega
          · have : 1 * 256 ^ L ≤ cy * 256 ^ L := Nat.mul_le_mul_right _ (by omega)
            omega
        · omega
      refine ⟨hB, ?_, Hne.out⟩
      rw [← of_value Hxl.out hval]
      exact hO
    have HB2 := Lib.hid hB; clear hB
    by_cases hj0 : j = 0
    · subst hj0
      have hR := Lib.hid (hdone (.inl rfl)); clear hdone hO
      go_wp2_with fail
      go_end0
      exact ⟨rfl, hR.out, HF.out⟩
    · by_cases hc0 : cy = 0
      · subst hc0
        obtain ⟨k, rfl⟩ : ∃ k, j = k + 1 := ⟨j - 1, by omega⟩
        have hR := Lib.hid (hdone (.inr rfl)); clear hdone hO
        go_wp2_with fail
        go_end0
        exact ⟨rfl, hR.out, HF.out⟩
      · obtain ⟨k, rfl⟩ : ∃ k, j = k + 1 := ⟨j - 1, by omega⟩
        have e0 : decide ((0 : Int) < (cy : Int)) = true := by simp; omega
        clear hdone
        obtain ⟨g', rfl, c2, c3, -, -⟩ := hO.cell (j := k) (by simp; have := Hxl.out; omega)
        obtain ⟨x, hx⟩ : ∃ x, x = xs.getD k 0 := ⟨_, rfl⟩
        have hk : k < xs.length := by have := Hxl.out; omega
        have c4 : wr.cell? ⟨g', k, none⟩ = some (.int .i64 (x.toNat : Int)) := by
          rw [c2, List.getElem?_map, List.getElem?_eq_getElem hk, hx, List.getD_eq_getElem?_getD, List.getElem?_eq_getElem hk]; rfl
        have hxl := x.toNat_lt
        obtain ⟨V, hVV⟩ : ∃ V, V = x.toNat + cy % 256 := ⟨_, rfl⟩
        have eV : (x.toNat : Int) + (cy : Int) % 256 = (V : Int) := by omega
        obtain ⟨z, hz⟩ : ∃ z : UInt8, z = UInt8.ofNat (V % 256) := ⟨_, rfl⟩
        have hzn : z.toNat = V % 256 := by rw [hz]; simp
        have ez : (V : Int) % 256 = (z.toNat : Int) := by omega
        obtain ⟨cy', hcy'⟩ : ∃ cy', cy' = cy / 256 + V / 256 := ⟨_, rfl⟩
        have ec : (cy : Int) / 256 + (V : Int) / 256 = (cy' : Int) := by omega
        have hVl : V ≤ 510 := by omega
        have hsum : z.toNat + 256 * cy' = x.toNat + cy := by omega
        have hcl : cy' ≤ 1099511627776 := by omega
        have h3 := hO.set k (I8 z)
        have hne : g' ≠ p := by have := Hne.out; simpa [Value.ownBlock] using this
        have hVn : valueOf (xs.set k z) + cy' * 256 ^ (L - k) = e.v + n := by
          have h1 := HV.out
          have h2 := valueOf_set xs k z hk
          rw [← hx, Hxl.out] at h2
          rw [show L - (k + 1) = L - 1 - k by omega] at h1
          rw [show L - k = (L - 1 - k) + 1 by omega, Nat.pow_succ]
          generalize 256 ^ (L - 1 - k) = P at h1 h2 ⊢
          have h4 : z.toNat * P + 256 * cy' * P = x.toNat * P + cy * P := by rw [← Nat.add_mul, hsum, Nat.add_mul]
          rw [show cy' * (P * 256) = 256 * cy' * P by rw [Nat.mul_comm P 256, ← Nat.mul_assoc, Nat.mul_comm cy' 256]]
          omega
        have H3 := Lib.hid h3
        have HVn := Lib.hid hVn
        clear h3 hVn hz hzn hVV hcy' hsum hx c2 hO
        go_wp2_with fail
        refine ⟨⟨k, cy', xs.set k z, by omega, by simp, rfl, hcl, by rw [List.length_set]; exact Hxl.out, HVn.out, ?_, HB2.out.far (by simp; omega) _, HF.out.setCell (.inl (by simp [Value.ownBlock])) _⟩, by simp [intOf]⟩
        have h5 := H3.out
        rw [← List.map_set] at h5
        exact h5
end Go.Proofs.Ytfjlepnodmeaaaa
