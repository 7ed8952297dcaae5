/-
  Contracts of bits.New, (*Writer).Len and (*Writer).Put: the writer that the pointer names has the bits L, and then L and the new ones; condition: L is no longer than 100000000000 bits.
-/
import Derived.Test.YtfjlepnodmeaaaaRows
import Derived.Test.YtfjlepnodmeaaaaBits1
import Derived.Test.YtfjlepnodmeaaaaBitsPlain
import Derived.Test.YtfjlepnodmeaaaaMem
import Derived.StillTailTactics
import Derived.Deep.QuietTactic
import Derived.BigQuiet
import Derived.Deep.DeepCutAuto
namespace Go.Proofs.Ytfjlepnodmeaaaa
open Go.RowKit

theorem shr_ne (a n : Nat) (h : 2 ^ n ≤ a) : ((a : Int) / 2 ^ n != 0) = true := by
  have h1 : 0 < a / 2 ^ n := Nat.div_pos h (Nat.two_pow_pos n)
  have e : (a : Int) / 2 ^ n = ((a / 2 ^ n : Nat) : Int) := by simp
  rw [e, bne_iff_ne]
  omega
theorem shr_eq (a n : Nat) (h : a < 2 ^ n) : ((a : Int) / 2 ^ n != 0) = false := by
  have e : (a : Int) / 2 ^ n = ((a / 2 ^ n : Nat) : Int) := by simp
  rw [e, Nat.div_eq_of_lt h]
  rfl

theorem and_ones (a m k fk : Nat) (ha : a < 18446744073709551616) (hk : fk + k ≤ 8) :
    ∃ z : Nat, z < 256 ∧ bits BinOp.and IntKind.u64 ((a : Int) / 2 ^ m) ((2 ^ k - 1 : Nat) : Int) = (z : Int) ∧ z = (a >>> m) % 2 ^ k ∧ z <<< fk < 256 := by
  have e : (a : Int) / 2 ^ m = ((a / 2 ^ m : Nat) : Int) := by simp
  have h0 : a / 2 ^ m ≤ a := Nat.div_le_self _ _
  have h1 : 2 ^ k ≤ 2 ^ 8 := Nat.pow_le_pow_right (by omega) (by omega)
  have h2 : (a / 2 ^ m) % 2 ^ k < 2 ^ k := Nat.mod_lt _ (Nat.two_pow_pos k)
  refine ⟨(a / 2 ^ m) % 2 ^ k, by omega, ?_, by rw [Nat.shiftRight_eq_div_pow], ?_⟩
  · rw [e, u64_and_nat _ _ (by omega) (by omega), Nat.and_two_pow_sub_one_eq_mod]
  · rw [Nat.shiftLeft_eq]
    have h3 : (a / 2 ^ m) % 2 ^ k * 2 ^ fk < 2 ^ k * 2 ^ fk := Nat.mul_lt_mul_of_pos_right h2 (Nat.two_pow_pos fk)
    have h4 : 2 ^ k * 2 ^ fk ≤ 2 ^ 8 := by rw [← Nat.pow_add]; exact Nat.pow_le_pow_right (by omega) (by omega)
    omega

theorem or_u8 (y z fk : Nat) (hy : y < 256) (hz : z <<< fk < 256) :
    bits BinOp.or IntKind.u8 (y : Int) ((z : Int) * 2 ^ fk % 256) = ((y ||| z <<< fk : Nat) : Int) ∧ (UInt8.ofNat (y ||| z <<< fk)).toNat = y ||| z <<< fk := by
  have h1 : y ||| z <<< fk < 2 ^ 8 := Nat.or_lt_two_pow (by omega) (by omega)
  have e : (z : Int) * 2 ^ fk % 256 = ((z <<< fk : Nat) : Int) := by
    have : ((z <<< fk : Nat) : Int) = (z : Int) * 2 ^ fk := by rw [Nat.shiftLeft_eq]; simp
    rw [← this]; exact Int.emod_eq_of_lt (Int.natCast_nonneg _) (Int.ofNat_lt.2 hz)
  refine ⟨by rw [e, u8_or_nat _ _ hy hz], ?_⟩
  simp only [UInt8.toNat_ofNat']
  exact Nat.mod_eq_of_lt h1

/-- What a call on the writer p, whose bytes lay at v, may have written. -/
def WFr (p : Nat) (v v' : Value) (w w' : World) : Prop := Fr (p :: v.ownBlock.toList) w w' ∧ (v'.ownBlock = v.ownBlock ∨ ∃ g, v'.ownBlock = some g ∧ w.heap.size ≤ g)

theorem WFr.app {p : Nat} {v v1 v2 : Value} {w0 w w3 : World} {o : Obj} (h : WFr p v v1 w0 w) (hG : Own1 v1 v2 (w.alloc o) w3) (u : Value) : WFr p v v2 w0 (w3.setCell ⟨p, 0, none⟩ u) := by
  obtain ⟨hf, hv⟩ := h
  obtain ⟨gf, gv⟩ := hG
  have hs := hf.size
  refine ⟨((hf.alloc o).trans gf ?_).setCell (.inl (by simp)) u, ?_⟩
  · intro x hx
    rcases hv with e | ⟨g, e, hg⟩
    · rw [e] at hx; exact .inl (List.mem_cons_of_mem _ hx)
    · rw [e] at hx; simp at hx; subst hx; exact .inr hg
  · rcases gv with e | ⟨g, e, hg⟩
    · rw [e]; exact hv
    · exact .inr ⟨g, e, by simp at hg; omega⟩

theorem info_u8 : (Try.prog.info? 5).map (fun i => (i.zero, i.size, i.bytes)) = some (some (.int .u8 0), 1, 1) := by kernel_rfl

/-- append onto bytes of the call's own. -/
theorem wp_append_u8 {w : World} {ops : Array Oper} {rest : List Oper} {o : Oper} {a : Act} {Q : Exit → Act → World → Prop} (s x : Operand) (v : Value) (xs : List UInt8) (src : Value) (news : List UInt8)
    (hgd : o.guard = none) (ho : o.op = .call { callee := .builtin .append, args := #[s, x], argTypes := #[37, 37] })
    (hv : a.eval s = v) (hsv : a.eval x = src) (hown : Own w 5 v (xs.map B8)) (hs : Src w src (news.map B8)) (hlen : xs.length + news.length ≤ 1000000000000)
    (h : ∀ v' w', Own w' 5 v' ((xs ++ news).map B8) → Own1 v v' w w' → wpList Try.prog ops Q rest (a.put o.dst v') w') : wpList Try.prog ops Q (o :: rest) a w := by
  obtain ⟨i, hi, hz, h1, h2⟩ := info_parts info_u8
  refine wpList_append_mine s x 37 5 i _ 1 hgd ho Try.underlying37 hi hz h1 h2 rfl v _ src _ hv hsv hown hs ?_ ?_ ?_ ?_
  · intro u hu
    obtain ⟨b, _, rfl⟩ := List.mem_map.1 hu
    rfl
  · simp only [List.length_map, maxLen]; omega
  · simp only [List.length_map]; omega
  · intro v' w' k1 k2
    exact h v' w' (by rw [List.map_append]; exact k1) k2

end Go.Proofs.Ytfjlepnodmeaaaa
