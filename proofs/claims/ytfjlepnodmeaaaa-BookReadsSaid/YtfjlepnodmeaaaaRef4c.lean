/-
  Contracts of the document's coder of layer 4: Bytes, Open, End; conditions: the lengths are bounded as named.
-/
import Derived.Test.YtfjlepnodmeaaaaRef4b
import Derived.Test.YtfjlepnodmeaaaaMine
import Derived.Test.YtfjlepnodmeaaaaSrc
namespace Go.Proofs.Ytfjlepnodmeaaaa
open Go.RowKit

theorem Re.fr {w w' : World} {p : Nat} {v : Value} {e : Enc} {S : List Nat} (h : Re w p v e) (hf : Fr S w w') (h1 : p ∉ S) (h2 : ∀ k, v.ownBlock = some k → k ∉ S) : Re w' p v e :=
  ⟨h.1.fr hf h1, h.2.1.fr hf h2, h.2.2⟩
theorem Re.fr0 {w w' : World} {p : Nat} {v : Value} {e : Enc} (h : Re w p v e) (hf : Fr [] w w') : Re w' p v e := h.fr hf (by simp) (by simp)

set_option maxRecDepth 20000 in
theorem rbytes_any (p : Nat) (v : Value) (e : Enc) (w : World) (h : Re w p v e) (hn : e.n ≤ 1000000) :
    Calls Try.prog 17 #[.pointer (some ⟨p, 0, none⟩)] w fun e' w' => ∃ u, e' = .returned u ∧ Mine w w' u (bytesOf e.n e.v) := by
  obtain ⟨g, c, rfl⟩ := h.form
  obtain ⟨ds, hds⟩ : ∃ ds, ds = bytesOf e.n e.v := ⟨_, rfl⟩
  obtain ⟨n, hnn⟩ : ∃ n, n = e.n := ⟨_, rfl⟩
  have hdl : ds.length = n := by rw [hds, bytesOf_length, hnn]
  have hO := h.2.1
  have hB := h.1
  rw [← hds] at hO ⊢
  rw [← hnn] at hO hB hn
  have hlt := hB.lt
  have HO := Lib.hid hO
  have HB := Lib.hid hB
  have Hdl := Lib.hid hdl
  clear h hO hB hds hnn hdl
  go_enter Try.func17, Try.ntmps17
  go_wp2_with fail
  go_loopw [3, 4] (fun s3 s4 wr => ∃ i : Nat, i ≤ n ∧ s4 = .int .i64 (i : Int) ∧ Mine w wr s3 (ds.take i)) (fun _ s4 _ => n - (intOf s4).toNat)
  case atStart => exact ⟨0, Nat.zero_le _, rfl, Mine.nil w⟩
  case round =>
    obtain ⟨i, hi, rfl, hM⟩ := hrel
    have c0 := (HB.out.fr hM.fr (by simp)).cell 0
    simp at c0
    by_cases hlt2 : i < n
    · have eg : decide (i < n) = true := by simp [hlt2]
      have hid : i < ds.length := by have := Hdl.out; omega
      obtain ⟨x, hx⟩ : ∃ x, ds[i]? = some x := ⟨_, List.getElem?_eq_getElem hid⟩
      obtain ⟨g', rfl, c1, -, -, -⟩ := (HO.out.fr hM.fr (by simp)).cell (j := i) (by simpa using hid)
      rw [List.getElem?_map, hx] at c1
      have c2 : wr.cell? ⟨g', i, none⟩ = some (.int .i64 (x.toNat : Int)) := c1
      have hxl := x.toNat_lt
      have ew : IntKind.u8.wrap (x.toNat : Int) = (x.toNat : Int) := IntWalk.u8_in _ (by omega)
      have Hx := Lib.hid hx
      have HM := Lib.hid hM
      have hlen : (ds.take i).length ≤ 1000000 := by simp; omega
      clear hx hM c1
      go_wp2_with (at_builtin; go_loud (refine wp_append_u8 _ _ u3 (ds.take i) (.slice (some ⟨wr.heap.size, 0, none⟩) 1 1) [x] rfl rfl rfl rfl (HM.out.own.alloc _) (Src.one (by simp [go_sem]; rfl)) (by simp at hlen ⊢; omega) ?_))
      intro v4 w4 hO hG
      have hM4 := (HM.out.fr0 ((Fr.refl _ _).alloc (.cells #[.int .u8 (x.toNat : Int)] 5))).appended (ys := [x]) (by rw [List.map_append, List.map_take]; exact hO) hG
      have HM4 := Lib.hid hM4; clear hM4 hO hG HM
      go_wp2_with fail
      refine ⟨⟨i + 1, by omega, by simp, ?_⟩, by simp [intOf]; omega⟩
      rw [List.take_add_one, Hx.out]
      exact HM4.out
    · obtain rfl : i = n := by omega
      have eg : decide (i < i) = false := by simp
      have HM := Lib.hid hM; clear hM
      go_wp2_with fail
      go_ret
      refine ⟨_, rfl, ?_⟩
      have h4 := HM.out
      rw [← Hdl.out, List.take_length] at h4
      exact h4

/-- The document's decoder: the bytes, where it is, the rest, the range. -/
def Rd (w : World) (p : Nat) (A : Option Addr) (c : Nat) (bs : List UInt8) (d : Dec) : Prop :=
  Blk w p 83 #[.slice A bs.length c, .int .i64 (d.i : Int), .int .i64 (d.rest : Int), .int .i64 (d.r : Int)] ∧ Src w (.slice A bs.length c) (bs.map B8) ∧ ∀ ad, A = some ad → ad.block ≠ p

theorem Re.lt {w : World} {q : Nat} {u : Value} {e : Enc} (h : Re w q u e) : q < w.heap.size := h.1.lt
theorem own_lt {w : World} {t : TypeId} {u : Value} {xs : List Value} (h : Own w t u xs) : ∀ k, u.ownBlock = some k → k < w.heap.size := by
  intro k hk
  rcases h.form with ⟨rfl, -⟩ | ⟨g, cap, cur, rfl, hb, -⟩
  · simp [Value.ownBlock] at hk
  · have : g = k := by simpa [Value.ownBlock] using hk
    subst this
    exact hb.lt
end Go.Proofs.Ytfjlepnodmeaaaa
