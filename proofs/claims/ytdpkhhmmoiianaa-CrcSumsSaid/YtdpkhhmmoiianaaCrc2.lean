/-
  Contracts of package crc: More, Sum; condition: the bytes are at most as many as named.
-/
import Derived.Test.YtdpkhhmmoiianaaCrc1
import Derived.Test.YtdpkhhmmoiianaaSrc
namespace Go.Proofs.Ytdpkhhmmoiianaa
open Go.RowKit

/-- Turned about. -/
def inv (s : W32) : W32 := ~~~s
theorem not_w32 (s : W32) : bits .xor .u32 IntKind.u32.max (s.toNat : Int) = ((inv s).toNat : Int) := by
  rw [show IntKind.u32.max = ((4294967295#32 : W32).toNat : Int) by decide, xor_w32]
  congr 2
theorem sg_u32 : IntKind.u32.signed = false := rfl
theorem feed_code (s : W32) (c : UInt8) : bits .xor .u32 ((s.toNat : Int) / 256) ((tab (s.toNat % 256 ^^^ c.toNat)).toNat : Int) = ((feed s c).toNat : Int) := by
  have h1 : (s.toNat : Int) / (256 : Int) = ((s >>> 8).toNat : Int) := by rw [toNat_shr]; simp
  rw [h1, xor_w32, feed_tab]
theorem low_code (s : W32) (c : UInt8) : bits .xor .u8 ((s.toNat : Int) % 256) (c.toNat : Int) = ((s.toNat % 256 ^^^ c.toNat : Nat) : Int) ∧ s.toNat % 256 ^^^ c.toNat < 256 := by
  have h1 : (s.toNat : Int) % (256 : Int) = ((s.toNat % 256 : Nat) : Int) := by simp
  have h2 : s.toNat % 256 < 256 := Nat.mod_lt _ (by omega)
  have h3 : c.toNat < 256 := c.toNat_lt
  rw [h1]
  exact ⟨u8_xor_nat _ _ h2 h3, Nat.xor_lt_two_pow (n := 8) h2 h3⟩
theorem run_take (s : W32) (bs : List UInt8) (i : Nat) (c : UInt8) (h : bs[i]? = some c) : run s (bs.take (i + 1)) = feed (run s (bs.take i)) c := by
  rw [List.take_add_one, h, run_append]; rfl

set_option maxRecDepth 20000 in
theorem more_any (s : W32) (src : Value) (bs : List UInt8) (w : World) (hs : Src w src (bs.map B8)) (hl : bs.length ≤ 1000000000000) :
    Calls Try.prog 12 #[V32 s, src] w fun e w' => e = .returned (V32 (inv (run (inv s) bs))) ∧ Fr [] w w' := by
  have z := (zero_of_info zero256).1
  have hi : (Try.prog.info? 28).map (·.size) = some (arr 256 tab).size := by rw [arr_size]; exact (zero_of_info zero256).2
  have HS := Lib.hid hs
  obtain ⟨A, n, c, rfl, hn⟩ : ∃ A n c, src = .slice A n c ∧ n = bs.length := by
    rcases hs with ⟨rfl, h⟩ | ⟨ad, c, rfl, -⟩
    · exact ⟨_, _, _, rfl, by simpa using (congrArg List.length h).symm⟩
    · exact ⟨_, _, _, rfl, by simp⟩
  have Hn := Lib.hid hn; clear hn hs
  have eN := not_w32 s
  have sg := sg_u32
  go_enter Try.func12, Try.ntmps12
  go_wp2_with fail
  refine (table_any w).mono ?_
  rintro e w1 ⟨rfl, hF1⟩
  have HF1 := Lib.hid hF1; clear hF1
  go_wp2_with (refine wpList_store_row rfl 28 _ _ rfl w1.heap.size _ rfl rfl 28 (Array.replicate 256 (Value.int IntKind.u32 0)) (heap_alloc_new _ _) hi (by rw [arr_size]; simp) (arr_one _ _) ?_)
  rw [World.setRow_alloc_new]
  generalize hw : w1.alloc (.cells (arr 256 tab) 28) = w2
  have hB : Blk w2 w1.heap.size 28 (arr 256 tab) := by rw [← hw]; exact Blk.new _ _ _
  have hF : Fr [] w w2 := by rw [← hw]; exact HF1.out.alloc _
  have HB := Lib.hid hB; clear hB
  have HF := Lib.hid hF; clear hF hw HF1 z eN
  generalize hp : w1.heap.size = p at HB ⊢
  clear hp hi
  go_loopw [6, 14] (fun s6 s14 wr => ∃ (i : Nat) (r : W32), i ≤ n ∧ s14 = .int .i64 (i : Int) ∧ s6 = V32 r ∧ r = run (inv s) (bs.take i) ∧ Fr [] w wr ∧ Blk wr p 28 (arr 256 tab)) (fun _ s14 _ => n - (intOf s14).toNat)
  case atStart => exact ⟨0, inv s, by omega, rfl, rfl, by simp [run], HF.out, HB.out⟩
  case round =>
    obtain ⟨i, r, hi, rfl, rfl, hr, hF, hB⟩ := hrel
    have Hr := Lib.hid hr; clear hr
    by_cases hlt : i < n
    · have eg : decide (i < n) = true := by simp [hlt]
      obtain ⟨x, hx⟩ : ∃ x, bs[i]? = some x := ⟨_, List.getElem?_eq_getElem (by have := Hn.out; omega)⟩
      obtain ⟨ad, rfl, c0⟩ := (HS.out.fr0 hF).cellAt hx
      unfold B8 at c0
      have eL := (low_code r x).1
      have eF := feed_code r x
      have c1 := hB.cell (r.toNat % 256 ^^^ x.toNat)
      rw [arr_get _ (low_code r x).2] at c1
      have ly := (low_code r x).2
      generalize r.toNat % 256 ^^^ x.toNat = y at eL eF c1 ly
      have ly2 : (y : Int) < 256 := by omega
      have hin : i < 1000000000000 := by have := Hn.out; omega
      have HF2 := Lib.hid hF; clear hF
      have HB2 := Lib.hid hB; clear hB
      have Hx := Lib.hid hx; clear hx
      go_wp2_with fail
      refine ⟨⟨i + 1, feed r x, by omega, by simp, rfl, by rw [run_take _ _ _ _ Hx.out, Hr.out], HF2.out, HB2.out⟩, by simp [intOf]; omega⟩
    · obtain rfl : i = n := by omega
      have eg : decide (i < i) = false := by simp
      have eN := not_w32 r
      have HF2 := Lib.hid hF; clear hF
      have HB2 := Lib.hid hB; clear hB
      go_wp2_with fail
      go_ret
      exact ⟨by rw [Hr.out, Hn.out, List.take_length]; rfl, HF2.out⟩

theorem sum_any (src : Value) (bs : List UInt8) (w : World) (hs : Src w src (bs.map B8)) (hl : bs.length ≤ 1000000000000) :
    Calls Try.prog 10 #[src] w fun e w' => e = .returned (V32 (inv (run (inv 0#32) bs))) ∧ Fr [] w w' := by
  have HM := Lib.hid (more_any 0#32 src bs w hs hl); clear hs
  go_enter Try.func10, Try.ntmps10
  go_wp2_with fail
  refine HM.out.mono ?_
  rintro e w1 ⟨rfl, hF1⟩
  have HF1 := Lib.hid hF1; clear hF1
  go_wp2_with fail
  go_ret
  exact ⟨rfl, HF1.out⟩
end Go.Proofs.Ytdpkhhmmoiianaa
