/-
  What the laws of layer 4 ask of the coder: contracts of its exported functions, over predicates of its own; a script of chances and bits as cells; the chance of a raw number. No condition.
-/
import Derived.Test.YtfnmplipbgdniaaMine
import Derived.Test.YtfnmplipbgdniaaCodPlain
import Derived.Test.YtfnmplipbgdniaaSrc
import Derived.Test.YtfnmplipbgdniaaRef1a
namespace Go.Proofs.Ytfnmplipbgdniaa
open Go.RowKit Go.ChangeShapes Go.WideShapes Go.ChangeAt Go.Deep

abbrev pt (p : Nat) : Value := .pointer (some ⟨p, 0, none⟩)

/-- The encoder's contracts. En w p D e: at p there is an encoder with the code e; the blocks D bear it. -/
structure EncSpec where
  En : World → Nat → List Nat → Enc → Prop
  lt : ∀ {w p D e}, En w p D e → ∀ k ∈ p :: D, k < w.heap.size
  fr : ∀ {w w' p D e S}, En w p D e → Fr S w w' → (∀ k ∈ p :: D, k ∉ S) → En w' p D e
  new : ∀ w, Calls Try.prog 10 #[] w fun r w' => ∃ p D, r = .returned (pt p) ∧ En w' p D encNew ∧ Fr [] w w' ∧ ∀ k ∈ p :: D, w.heap.size ≤ k
  bad : ∀ w p D e (c : Nat) (bit : Int), En w p D e → c < 65536 → -9223372036854775808 ≤ bit → bit ≤ 9223372036854775807 → ¬ (rightC c ∧ (bit = 0 ∨ bit = 1)) →
    Calls Try.prog 12 #[pt p, .int .u16 (c : Int), .int .i64 bit] w fun r w' => r = .returned (.int .i64 1) ∧ Fr [] w w'
  put : ∀ w p D e (c : Nat) (bit : Bool), En w p D e → e.Ok → rightC c → e.n ≤ 100000 →
    Calls Try.prog 12 #[pt p, .int .u16 (c : Int), .int .i64 (bit.toNat : Int)] w fun r w' => r = .returned (.int .i64 0) ∧ ∃ D', En w' p D' (encPut e c bit) ∧ Fr (p :: D) w w' ∧ ∀ k ∈ D', k ∈ D ∨ w.heap.size ≤ k
  bytes : ∀ w p D e, En w p D e → e.Ok → e.n ≤ 100000 →
    Calls Try.prog 17 #[pt p] w fun r w' => ∃ u, r = .returned u ∧ Src w' u ((bytesOf e.n e.v).map B8) ∧ Fr [] w w' ∧ (∀ k, u.ownBlock = some k → k ∈ D ∨ w.heap.size ≤ k)
  putNil : ∀ w (c : Nat) (bit : Int), c < 65536 → Calls Try.prog 12 #[.pointer none, .int .u16 (c : Int), .int .i64 bit] w fun r w' => r = .returned (.int .i64 1) ∧ Fr [] w w'
  bytesNil : ∀ w, Calls Try.prog 17 #[.pointer none] w fun r w' => r = .returned (.slice none 0 0) ∧ Fr [] w w'

/-- The decoder's. De w p D bs d: at p there is a decoder of the bytes bs, at d; the blocks D bear the bytes. -/
structure DecSpec where
  De : World → Nat → List Nat → List UInt8 → Dec → Prop
  lt : ∀ {w p D bs d}, De w p D bs d → ∀ k ∈ p :: D, k < w.heap.size
  fr : ∀ {w w' p D bs d S}, De w p D bs d → Fr S w w' → (∀ k ∈ p :: D, k ∉ S) → De w' p D bs d
  short : ∀ w A (n c : Nat), n < 4 → Calls Try.prog 20 #[.slice A n c] w fun r w' => r = .returned (.tuple #[.pointer none, .int .i64 41]) ∧ Fr [] w w'
  opens : ∀ w A c bs, Src w (.slice A bs.length c) (bs.map B8) → 4 ≤ bs.length → bs.length ≤ 100000 →
    Calls Try.prog 20 #[.slice A bs.length c] w fun r w' => ∃ p D, r = .returned (.tuple #[pt p, .int .i64 0]) ∧ De w' p D bs (decOpen bs) ∧ Fr [] w w' ∧ w.heap.size ≤ p ∧ (∀ k ∈ D, k ≠ p) ∧ ∀ k ∈ D, w.heap.size ≤ k ∨ ∃ ad, A = some ad ∧ ad.block = k
  arg : ∀ w p D bs d (c : Nat), De w p D bs d → c < 65536 → ¬ rightC c → Calls Try.prog 22 #[pt p, .int .u16 (c : Int)] w fun r w' => r = .returned (.tuple #[.int .i64 0, .int .i64 1]) ∧ Fr [] w w'
  get : ∀ w p D bs d (c : Nat), De w p D bs d → rightC c → d.rest < 4294967296 → 16777216 ≤ d.r → d.r ≤ 4294967295 → d.i ≤ bs.length → bs.length ≤ 100000 →
    Calls Try.prog 22 #[pt p, .int .u16 (c : Int)] w fun r w' =>
      (∃ bit d', decGet bs d c = some (bit, d') ∧ r = .returned (.tuple #[.int .i64 (bit.toNat : Int), .int .i64 0]) ∧ De w' p D bs d' ∧ Fr [p] w w') ∨
      (decGet bs d c = none ∧ r = .returned (.tuple #[.int .i64 0, .int .i64 41]) ∧ Fr [] w w')
  ends : ∀ w p D bs d, De w p D bs d → Calls Try.prog 24 #[pt p] w fun r w' => r = .returned (.int .i64 (if d.i = bs.length ∧ d.rest = 0 then 0 else 41)) ∧ ∃ m, w' = w.drewN m
  getNil : ∀ w (c : Nat), c < 65536 → Calls Try.prog 22 #[.pointer none, .int .u16 (c : Int)] w fun r w' => r = .returned (.tuple #[.int .i64 0, .int .i64 1]) ∧ Fr [] w w'
  endNil : ∀ w, Calls Try.prog 24 #[.pointer none] w fun r w' => r = .returned (.int .i64 1) ∧ Fr [] w w'

/-- The chance's. -/
def NextSpec : Prop := ∀ w (c : Nat) (bit : Int), c < 65536 → -9223372036854775808 ≤ bit → bit ≤ 9223372036854775807 →
  Calls Try.prog 15 #[.int .u16 (c : Int), .int .i64 bit] w fun r w' => r = .returned (.int .u16 (nextC c (bit != 0) : Int)) ∧ Fr [] w w'

/-- A raw number as a chance. -/
def rawC (c : Int) : Nat := (c % 65536).toNat
theorem rawC_lt (c : Int) : rawC c < 65536 := by unfold rawC; omega
theorem and_raw (c : Int) : bits .and .i64 c 65535 = (rawC c : Int) := by
  show IntKind.i64.wrap ((BitVec.ofInt 64 c &&& BitVec.ofInt 64 65535).toNat : Int) = _
  rw [BitVec.toNat_and, BitVec.toNat_ofInt, show (BitVec.ofInt 64 65535).toNat = 2 ^ 16 - 1 by decide, Nat.and_two_pow_sub_one_eq_mod]
  have h : (c % ((2 ^ 64 : Nat) : Int)).toNat % 2 ^ 16 = rawC c := by unfold rawC; omega
  rw [h, IntWalk.i64_in _ (by have := rawC_lt c; omega)]

theorem chance_any (c : Int) (w : World) :
    Calls Try.prog 13 #[.int .i64 c] w fun r w' => r = .returned (.int .u16 (rawC c : Int)) ∧ w' = w := by
  have e1 := and_raw c
  have h := rawC_lt c
  generalize rawC c = m at e1 h ⊢
  have e2 : IntKind.wrap .u16 (m : Int) = (m : Int) := IntWalk.u16_in _ (by omega)
  go_enter Try.func13, Try.ntmps13
  go_wp2_with fail
  go_ret
  exact ⟨rfl, rfl⟩

/-- The script's acts as cells: chance and bit of each. -/
def Acts2 (w : World) (A : Option Addr) (len : Nat) (acts : List (Int × Int)) : Prop :=
  acts.length = len ∧ ∀ (i : Nat) (c b : Int), acts[i]? = some (c, b) → -9223372036854775808 ≤ b ∧ b ≤ 9223372036854775807 ∧ ∃ g o, A = some ⟨g, o, none⟩ ∧
    w.cell? ⟨g, o + i * 2, none⟩ = some (.int .i64 c) ∧ w.cell? ⟨g, o + i * 2 + 1, none⟩ = some (.int .i64 b)

theorem Acts2.fr {w w' : World} {A : Option Addr} {len : Nat} {acts : List (Int × Int)} (h : Acts2 w A len acts) (hf : Fr [] w w') : Acts2 w' A len acts := by
  refine ⟨h.1, fun i c b hi => ?_⟩
  obtain ⟨l1, l2, g, o, rfl, h1, h2⟩ := h.2 i c b hi
  have f : ∀ (j : Nat) (u : Value), w.cell? ⟨g, j, none⟩ = some u → w'.cell? ⟨g, j, none⟩ = some u := fun j u hu => (hf.cell (World.block_lt_of_cell? w _ hu) (by simp)).trans hu
  exact ⟨l1, l2, g, o, rfl, f _ _ h1, f _ _ h2⟩

section
variable {H : Type} {enc : TypeId × Value → H} {w : World} {base : Nat} {spare : Nat → Bool} {held : Bool}
theorem open_act2 {n : Nat} {cs : List Value} {x : DataW H × List MemPlace} (h : DataW.trod enc Try.prog w base spare held n 28 cs = some x) :
    ∃ (c b : Int), cs = [.int .i64 c, .int .i64 b] ∧ -9223372036854775808 ≤ b ∧ b ≤ 9223372036854775807 := by
  obtain ⟨xs, n', -, -, hl, hx, hf⟩ := DataW.trod_struct Try.underlying28 h
  have hx2 : xs.length = 2 := hx
  have hl2 : cs.length = 2 := hl.trans (by kernel_rfl)
  match cs, hl2, xs, hx2 with
  | [c0, c1], _, [y0, y1], _ =>
    have e0 : Try.prog.cellsOf 3 = 1 := by kernel_rfl
    have g0 : DataW.trod enc Try.prog w base spare held n' 3 (([c0, c1].drop 0).take (Try.prog.cellsOf 3)) = some y0 := hf 0 _ rfl
    have g1 : DataW.trod enc Try.prog w base spare held n' 3 (([c0, c1].drop 1).take (Try.prog.cellsOf 3)) = some y1 := hf 1 _ rfl
    rw [e0] at g0 g1
    obtain ⟨k, h0, -, -⟩ := DataW.trod_int Try.underlying3 g0
    obtain ⟨m, h1, -, hv⟩ := DataW.trod_int Try.underlying3 g1
    simp [Lit.wf, IntKind.min, IntKind.max, IntKind.signed, IntKind.bits] at hv
    simp at h0 h1
    exact ⟨k, m, by rw [h0, h1], by omega, by omega⟩

theorem open_acts2 {n : Nat} {v : Value} {d : DataW H} {ps : List MemPlace} (h : DataW.trod enc Try.prog w base spare held n 22 [v] = some (d, ps)) :
    ∃ (A : Option Addr) (len cap : Nat) (acts : List (Int × Int)), v = .slice A len cap ∧ Acts2 w A len acts ∧ len ≤ maxLen := by
  rcases open_slice Try.underlying22 h with ⟨h0, -⟩ | ⟨a, len, cap, m, n', D, Pl, h0, -, hc, hm, hmm, -, hi⟩
  · refine ⟨none, 0, 0, [], by simpa using h0, ⟨rfl, fun i k n h => by simp at h⟩, by simp⟩
  · have hlm : len ≤ m := by rw [hmm]; split <;> omega
    have e3 : Try.prog.cellsOf 28 = 2 := by kernel_rfl
    have each : ∀ i, i < len → ∃ x : Int × Int, (-9223372036854775808 ≤ x.2 ∧ x.2 ≤ 9223372036854775807) ∧ w.cell? (a.add (i * 2)) = some (.int .i64 x.1) ∧ w.cell? ((a.add (i * 2)).add 1) = some (.int .i64 x.2) := by
      intro i hil
      obtain ⟨cs', hcs, ht⟩ := hi i (by omega)
      rw [e3] at hcs
      obtain ⟨-, -, hcell⟩ := World.cells?_some hcs
      obtain ⟨k, m, rfl, hv1, hv2⟩ := open_act2 ht
      exact ⟨(k, m), ⟨hv1, hv2⟩, hcell 0 (by omega), hcell 1 (by omega)⟩
    let f : Nat → Int × Int := fun i => if hil : i < len then Classical.choose (each i hil) else (0, 0)
    have hf : ∀ i, i < len → (-9223372036854775808 ≤ (f i).2 ∧ (f i).2 ≤ 9223372036854775807) ∧ w.cell? (a.add (i * 2)) = some (.int .i64 (f i).1) ∧ w.cell? ((a.add (i * 2)).add 1) = some (.int .i64 (f i).2) := by
      intro i hil
      simp only [f, dif_pos hil]
      exact Classical.choose_spec (each i hil)
    refine ⟨some a, len, cap, (List.range len).map f, by simpa using h0, ⟨by simp, fun i k n hx => ?_⟩, by omega⟩
    have hil : i < len := by
      have := (List.getElem?_eq_some_iff.1 hx).1
      simpa using this
    have hfi : f i = (k, n) := by
      rw [List.getElem?_map, List.getElem?_range hil] at hx
      simpa using hx
    obtain ⟨g0, g1, g2⟩ := hf i hil
    rw [hfi] at g0 g1 g2
    obtain ⟨-, p1, -⟩ := hf 0 (by omega)
    simp only [Nat.zero_mul, Addr.add, if_pos] at p1
    have ha := plain_of_cell p1
    rw [ha] at g1 g2 ⊢
    rw [add_plain] at g1 g2
    rw [add_plain] at g2
    exact ⟨g0.1, g0.2, _, _, rfl, g1, g2⟩
end

/-! The live question. -/
def e1 : Enc := encPut encNew 1024 true
def e2 : Enc := encPut e1 1024 false
def liveBytes : List UInt8 := [127, 255, 252, 0]
theorem live_bytes : bytesOf e2.n e2.v = liveBytes := by decide +kernel
theorem live_ok : encNew.Ok ∧ e1.Ok ∧ e2.Ok := by
  have h1 := encPut_ok encNew_ok (c := 1024) (by decide) true
  exact ⟨encNew_ok, h1, encPut_ok h1 (by decide) false⟩
def d1 : Dec := ⟨4, 0, 2147484671⟩
def d2 : Dec := ⟨4, 0, 1073741824⟩
theorem live_get1 : decGet liveBytes (decOpen liveBytes) 1024 = some (true, d1) := by decide +kernel
theorem live_get2 : decGet liveBytes d1 1024 = some (false, d2) := by decide +kernel

set_option maxRecDepth 20000 in
theorem alive4_any (X : EncSpec) (Y : DecSpec) (N : NextSpec) (w : World) :
    Calls Try.prog 19 #[] w fun e w' => e = .returned (.bool true) ∧ Fr [] w w' := by
  go_enter Try.func19, Try.ntmps19
  go_wp2_with fail
  refine (X.new w).mono ?_
  rintro e w1 ⟨p, D, rfl, hE, hF, hn⟩
  have HE := Lib.hid hE; have HF := Lib.hid hF; have HN := Lib.hid hn
  clear hE hF hn
  go_wp2_with fail
  refine (X.put w1 p D encNew 1024 true HE.out live_ok.1 (by decide) (by decide)).mono ?_
  rintro e w2 ⟨rfl, D2, hE2, hF2, hn2⟩
  have HE2 := Lib.hid hE2; have HF2 := Lib.hid hF2; have HN2 := Lib.hid hn2
  clear hE2 hF2 hn2
  go_wp2_with fail
  refine (X.put w2 p D2 e1 1024 false HE2.out live_ok.2.1 (by decide) (by decide)).mono ?_
  rintro e w3 ⟨rfl, D3, hE3, hF3, hn3⟩
  have hF03 : Fr [] w w3 := by
    have h1 : Fr [] w w2 := HF.out.trans HF2.out (fun x hx => .inr (HN.out x hx))
    refine h1.trans hF3 (fun x hx => .inr ?_)
    rcases List.mem_cons.1 hx with h | h
    · rw [h]; exact HN.out p (List.mem_cons_self ..)
    · rcases HN2.out x h with h2 | h2
      · exact HN.out x (List.mem_cons_of_mem _ h2)
      · exact Nat.le_trans HF.out.size h2
  have hb := X.bytes w3 p D3 e2 hE3 live_ok.2.2 (by decide)
  rw [live_bytes] at hb
  have HB := Lib.hid hb; have HF3 := Lib.hid hF03
  clear hE3 hF3 hn3 HE HF HN HE2 HF2 HN2 hF03 hb
  go_wp2_with fail
  refine HB.out.mono ?_
  rintro e w4 ⟨u, rfl, hS, hF4, -⟩
  obtain ⟨A, c, rfl⟩ := hS.slice
  change Src w4 (.slice A 4 c) _ at hS
  have hS4 : Src w4 (.slice A liveBytes.length c) (liveBytes.map B8) := hS
  have HS := Lib.hid hS4; have HF4 := Lib.hid (HF3.out.trans hF4 (by simp))
  clear hS hS4 hF4 HB HF3
  have hO := Y.opens w4 A c liveBytes HS.out (by decide) (by decide)
  have HO := Lib.hid hO; clear hO
  change Hid (Calls _ _ #[.slice A 4 c] _ _) at HO
  rw [show liveBytes.length = 4 from rfl]
  go_wp2_with fail
  refine HO.out.mono ?_
  rintro e w5 ⟨y, K, rfl, hY, hF5, hy, hyK, hK⟩
  have HS5 := Lib.hid (HS.out.fr0 hF5)
  have hy0 : w.heap.size ≤ y := Nat.le_trans HF4.out.size hy
  have HF5 := Lib.hid (HF4.out.trans hF5 (by simp))
  have hls : ∀ ad, A = some ad → ad.block ≠ y := by
    intro ad had
    obtain ⟨a1, r1, c1⟩ := HS.out.cellAt (k := 0) (List.getElem?_eq_getElem (by decide))
    rw [had] at r1
    injection r1 with r1
    subst r1
    have := World.block_lt_of_cell? w4 _ c1
    rw [addr_block] at this
    omega
  have HY := Lib.hid hY; have Hls := Lib.hid hls; have Hy0 := Lib.hid hy0
  clear hY hF5 hy hyK hK hls hy0 HO HS HF4
  go_wp2_with fail
  refine (Y.get w5 y K liveBytes _ 1024 HY.out (by decide) (by decide) (by decide) (by decide) (by decide) (by decide)).mono ?_
  rintro e w6 (⟨bit, d', hg, rfl, hY6, hF6⟩ | ⟨hg, -⟩)
  rotate_left
  · rw [live_get1] at hg; cases hg
  rw [live_get1] at hg
  injection hg with hg
  injection hg with hg1 hg2
  subst hg1 hg2
  have HY6 := Lib.hid hY6
  have HF6 := Lib.hid (HF5.out.trans hF6 (fun x hx => .inr (by simp at hx; subst hx; exact Hy0.out)))
  have HS6 := Lib.hid (HS5.out.fr hF6 (fun k hk hm => by
    simp at hm; subst hm
    cases A with
    | none => simp [Value.ownBlock] at hk
    | some ad => exact Hls.out ad rfl (by simpa [Value.ownBlock] using hk)))
  clear hY6 hF6 HY HF5 HS5
  go_wp2_with fail
  refine (Y.get w6 y K liveBytes _ 1024 HY6.out (by decide) (by decide) (by decide) (by decide) (by decide) (by decide)).mono ?_
  rintro e w7 (⟨bit, d', hg, rfl, hY7, hF7⟩ | ⟨hg, -⟩)
  rotate_left
  · rw [live_get2] at hg; cases hg
  rw [live_get2] at hg
  injection hg with hg
  injection hg with hg1 hg2
  subst hg1 hg2
  have HF7 := Lib.hid (HF6.out.trans hF7 (fun x hx => .inr (by simp at hx; subst hx; exact Hy0.out)))
  have HS7 := Lib.hid (HS6.out.fr hF7 (fun k hk hm => by
    simp at hm; subst hm
    cases A with
    | none => simp [Value.ownBlock] at hk
    | some ad => exact Hls.out ad rfl (by simpa [Value.ownBlock] using hk)))
  have hEnd := Y.ends w7 y K liveBytes _ hY7
  rw [if_pos (by decide)] at hEnd
  have HEnd := Lib.hid hEnd
  clear hY7 hF7 HY6 HF6 HS6 hEnd
  go_wp2_with fail
  refine HEnd.out.mono ?_
  rintro e w8 ⟨rfl, m, hm8⟩
  have hF8 : Fr [] w7 w8 := by rw [hm8]; exact (Fr.refl _ _).drewN m
  clear hm8
  obtain ⟨ad, rfl, c0⟩ := (HS7.out.fr0 hF8).cellAt (k := 0) (x := 127) rfl
  have c1 : w8.cell? (ad.add 0) = some (.int .u8 127) := c0
  have c2 : w8.cell? ad = some (.int .u8 127) := by simpa [Addr.add] using c1
  have HF8 := Lib.hid (HF7.out.trans hF8 (by simp))
  clear c0 hF8 HF7 HS7 HEnd
  go_wp2_with fail
  refine (N w8 1024 1 (by decide) (by decide) (by decide)).mono ?_
  rintro e w9 ⟨rfl, hF9⟩
  have HF9 := Lib.hid (HF8.out.trans hF9 (by simp))
  rw [show nextC 1024 ((1 : Int) != 0) = 992 by decide]
  clear hF9 HF8
  go_wp2_with fail
  go_ret
  exact ⟨rfl, HF9.out⟩
end Go.Proofs.Ytfnmplipbgdniaa
