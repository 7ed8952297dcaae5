/-
  The law CoderBack answers true whatever its input, out of the coder's contracts; no condition.
-/
import Derived.Test.YtfnmplipbgdniaaDLive
import Derived.Maps.AppendAt
namespace Go.Proofs.Ytfnmplipbgdniaa
open Go.RowKit

theorem ownsRow_fr {w w' : World} {base : Nat} {e : TypeId} {s : Nat} {v : Value} {n : Nat} {xs : List Value} {S : List Nat} (h : w.ownsRow base e s v n xs) (hf : Fr S w w') (hn : ∀ k, v.ownBlock = some k → k ∉ S) : w'.ownsRow base e s v n xs := by
  refine ⟨h.1, ?_⟩
  rcases h.2 with h0 | ⟨g, cap, cur, rfl, hb, hgg, rest⟩
  · exact .inl h0
  · refine .inr ⟨g, cap, cur, rfl, hb, ?_, rest⟩
    rw [hf.block g (Array.getElem?_eq_some_iff.1 hgg).1 (hn g rfl)]
    exact hgg
theorem ownsRow_new {w : World} {base : Nat} {e : TypeId} {s : Nat} {v : Value} {n : Nat} {xs : List Value} (h : w.ownsRow base e s v n xs) : ∀ k, v.ownBlock = some k → base ≤ k ∧ k < w.heap.size := by
  intro k hk
  rcases h.2 with ⟨rfl, _⟩ | ⟨g, cap, cur, rfl, hb, hgg, rest⟩
  · simp [Value.ownBlock] at hk
  · have : g = k := by simpa [Value.ownBlock] using hk
    subst this
    exact ⟨hb, (Array.getElem?_eq_some_iff.1 hgg).1⟩

/-- An act as cells; what it is to the coder. -/
def cellsA (a : Int × Int) : List Value := [.int .i64 a.1, .int .i64 a.2]
def actC (a : Int × Int) : Nat × Bool := (rawC a.1, a.2 == 1)
def goodA (a : Int × Int) : Prop := rightC (rawC a.1) ∧ (a.2 = 0 ∨ a.2 = 1)
theorem flat_len : ∀ l : List (Int × Int), (l.flatMap cellsA).length = l.length * 2
  | [] => rfl
  | a :: l => by
    have := flat_len l
    simp only [List.flatMap_cons, List.length_append, List.length_cons, this]
    simp [cellsA]; omega
theorem flat_at : ∀ (l : List (Int × Int)) (i : Nat) (a : Int × Int), l[i]? = some a → (l.flatMap cellsA)[i * 2]? = some (.int .i64 a.1) ∧ (l.flatMap cellsA)[i * 2 + 1]? = some (.int .i64 a.2)
  | [], i, a, h => by simp at h
  | x :: l, 0, a, h => by
    simp at h
    subst h
    exact ⟨rfl, rfl⟩
  | x :: l, i + 1, a, h => by
    have := flat_at l i a (by simpa using h)
    rw [List.flatMap_cons]
    have e1 : (cellsA x ++ l.flatMap cellsA)[(i + 1) * 2]? = (l.flatMap cellsA)[i * 2]? := by
      rw [List.getElem?_append_right (by simp [cellsA]; omega)]
      congr 1
      simp [cellsA]; omega
    have e2 : (cellsA x ++ l.flatMap cellsA)[(i + 1) * 2 + 1]? = (l.flatMap cellsA)[i * 2 + 1]? := by
      rw [List.getElem?_append_right (by simp [cellsA]; omega)]
      congr 1
      simp [cellsA]; omega
    rw [e1, e2]
    exact this

theorem rights_of {l : List (Int × Int)} (h : ∀ a ∈ l, goodA a) : Rights (l.map actC) := by
  intro x hx
  obtain ⟨a, ha, rfl⟩ := List.mem_map.1 hx
  exact (h a ha).1
theorem bit_of {a : Int × Int} (h : goodA a) : (((a.2 == 1) : Bool).toNat : Int) = a.2 := by
  rcases h.2 with h | h <;> rw [h] <;> rfl

theorem info_act4 : (Try.prog.info? 28).map (fun i => (i.zero, i.size, i.bytes)) = some (some (.agg #[.int .i64 0, .int .i64 0]), 2, 16) := by kernel_rfl

/-- The acts in a row of the call's own; where an append lays them. -/
def DoneRow (base : Nat) (w : World) (v : Value) (l : List (Int × Int)) : Prop := w.ownsRow base 28 2 v l.length (l.flatMap cellsA)
def MovedTo (w : World) (v v' : Value) : Prop := v'.ownBlock = v.ownBlock ∨ v'.ownBlock = some w.heap.size

/-- append of one act onto the acts that were put. -/
theorem wp_append_act4 {w : World} {ops : Array Oper} {rest : List Oper} {o : Oper} {a : Act} {Q : Exit → Act → World → Prop} (base : Nat) (s x : Operand) (v : Value) (l : List (Int × Int)) (k b : Int) (g c : Nat)
    (hgd : o.guard = none) (ho : o.op = .call { callee := .builtin .append, args := #[s, x], argTypes := #[22, 22] })
    (hv : a.eval s = v) (hx : a.eval x = .slice (some ⟨g, 0, none⟩) 1 c) (hown : w.ownsRow base 28 2 v l.length (l.flatMap cellsA))
    (h0 : w.cell? ⟨g, 0, none⟩ = some (.int .i64 k)) (h1 : w.cell? ⟨g, 1, none⟩ = some (.int .i64 b)) (hlen : l.length ≤ 1000000) (hb : base ≤ w.heap.size)
    (h : ∀ v' w', DoneRow base w' v' (l ++ [(k, b)]) → Fr v.ownBlock.toList w w' → MovedTo w v v' → wpList Try.prog ops Q rest (a.put o.dst v') w') : wpList Try.prog ops Q (o :: rest) a w := by
  have hi0 : ∃ i, Try.prog.info? 28 = some i ∧ i.zero = some (.agg #[.int .i64 0, .int .i64 0]) ∧ i.size = 2 ∧ i.bytes = 16 := info_parts info_act4
  obtain ⟨i, hi, hz, hs, hby⟩ := hi0
  refine wpList_append_own_at w hgd s x 22 ho base 28 i _ 2 16 Try.underlying22 hi hz hs hby rfl (by omega) v l.length (l.flatMap cellsA) hv hown ⟨g, 0, none⟩ 1 c [.int .i64 k, .int .i64 b] hx rfl ?_ ?_ (by simp only [maxLen]; omega) (by omega) hb ?_
  · intro j u hu
    rw [show ((⟨g, 0, none⟩ : Addr).add j) = ⟨g, j, none⟩ by cases j <;> simp [Addr.add]]
    match j, hu with
    | 0, hu => simp at hu; subst hu; exact h0
    | 1, hu => simp at hu; subst hu; exact h1
  · intro u hu
    simp at hu
    rcases hu with rfl | rfl <;> rfl
  · intro v' w' k1 k2 _ k4
    refine h v' w' ?_ ((Fr.refl _ _).grown k2 (fun k hk => .inl (by simp [hk]))) k4
    unfold DoneRow
    rw [List.length_append, show (l ++ [(k, b)]).flatMap cellsA = l.flatMap cellsA ++ [.int .i64 k, .int .i64 b] by simp [cellsA]]
    exact k1

/-! Two decoders of the code, and of the code with a byte more. -/
def DoneCells (w : World) (A : Option Addr) (l : List (Int × Int)) : Prop := ∀ (j : Nat) (c b : Int), l[j]? = some (c, b) → ∃ g, A = some ⟨g, 0, none⟩ ∧ w.cell? ⟨g, j * 2, none⟩ = some (.int .i64 c) ∧ w.cell? ⟨g, j * 2 + 1, none⟩ = some (.int .i64 b)
theorem done_cells {w : World} {base : Nat} {A : Option Addr} {n c : Nat} {l : List (Int × Int)} (h : w.ownsRow base 28 2 (.slice A n c) l.length (l.flatMap cellsA)) : DoneCells w A l := by
  intro j x b hj
  have hlt := (List.getElem?_eq_some_iff.1 hj).1
  obtain ⟨f0, f1⟩ := flat_at l j (x, b) hj
  rcases h.2 with ⟨h0, h1⟩ | ⟨g, cap, cur, hv, -, hg, hc, -, hs, ht⟩
  · omega
  · injection hv with hv
    subst hv
    refine ⟨g, rfl, ?_, ?_⟩
    · rw [World.cell?]
      simp only [hg]
      rw [← ht, List.getElem?_take_of_lt (by omega)] at f0
      simpa using f0
    · rw [World.cell?]
      simp only [hg]
      rw [← ht, List.getElem?_take_of_lt (by omega)] at f1
      simpa using f1
structure Both (Y : DecSpec) (w0 w : World) (A : Option Addr) (l : List (Int × Int)) (y : Nat) (K : List Nat) (z : Nat) (M : List Nat) (bs : List UInt8) (d e : Dec) : Prop where
  dy : Y.De w y K bs d
  dz : Y.De w z M (bs ++ [0]) e
  fr : Fr [] w0 w
  ny : w0.heap.size ≤ y
  nz : w0.heap.size ≤ z
  sy : ∀ k ∈ y :: K, k ≠ z
  sz : ∀ k ∈ z :: M, k ≠ y
  cells : DoneCells w A l
  apart : ∀ ad, A = some ad → ad.block ≠ y ∧ ad.block ≠ z
section
variable {Y : DecSpec} {w0 w w' : World} {A : Option Addr} {l : List (Int × Int)} {y : Nat} {K : List Nat} {z : Nat} {M : List Nat} {bs : List UInt8} {d e d' : Dec}
theorem DoneCells.fr {S : List Nat} (h : DoneCells w A l) (hf : Fr S w w') (hs : ∀ ad, A = some ad → ad.block ∉ S) : DoneCells w' A l := by
  intro j c b hj
  obtain ⟨g, rfl, h1, h2⟩ := h j c b hj
  have hn := hs _ rfl
  exact ⟨g, rfl, (hf.cell (World.block_lt_of_cell? w _ h1) hn).trans h1, (hf.cell (World.block_lt_of_cell? w _ h2) hn).trans h2⟩
theorem Both.fr0 (h : Both Y w0 w A l y K z M bs d e) (hf : Fr [] w w') : Both Y w0 w' A l y K z M bs d e :=
  ⟨Y.fr h.dy hf (by simp), Y.fr h.dz hf (by simp), h.fr.trans hf (by simp), h.ny, h.nz, h.sy, h.sz, h.cells.fr hf (by simp), h.apart⟩
theorem Both.gotY (h : Both Y w0 w A l y K z M bs d e) (hf : Fr [y] w w') (hd : Y.De w' y K bs d') : Both Y w0 w' A l y K z M bs d' e :=
  ⟨hd, Y.fr h.dz hf (fun k hk hm => h.sz k hk (by simpa using hm)), h.fr.trans hf (fun x hx => .inr (by simp at hx; subst hx; exact h.ny)), h.ny, h.nz, h.sy, h.sz, h.cells.fr hf (fun ad had hm => (h.apart ad had).1 (by simpa using hm)), h.apart⟩
theorem Both.gotZ (h : Both Y w0 w A l y K z M bs d e) (hf : Fr [z] w w') (hd : Y.De w' z M (bs ++ [0]) d') : Both Y w0 w' A l y K z M bs d d' :=
  ⟨Y.fr h.dy hf (fun k hk hm => h.sy k hk (by simpa using hm)), hd, h.fr.trans hf (fun x hx => .inr (by simp at hx; subst hx; exact h.nz)), h.ny, h.nz, h.sy, h.sz, h.cells.fr hf (fun ad had hm => (h.apart ad had).2 (by simpa using hm)), h.apart⟩
end

/-- The decoder behind the first j acts. -/
def Behind (bs : List UInt8) (d : Dec) (l : List (Int × Int)) (j : Nat) : Prop := At bs d (puts encNew ((l.take j).map actC))
theorem behind_zero {bs : List UInt8} (l : List (Int × Int)) (h : 4 ≤ bs.length) : Behind bs (decOpen bs) l 0 := at_open bs h
theorem behind_step {l : List (Int × Int)} {f : Enc} {bs tail : List UInt8} {d : Dec} {j : Nat} {c b : Int} (hf : f = puts encNew (l.map actC)) (hr : Rights (l.map actC)) (hb : bs = bytesOf f.n f.v)
    (ha : l[j]? = some (c, b)) (h : Behind (bs ++ tail) d l j) : ∃ d', decGet (bs ++ tail) d (rawC c) = some (b == 1, d') ∧ Behind (bs ++ tail) d' l (j + 1) := by
  have hlt := (List.getElem?_eq_some_iff.1 ha).1
  have hsplit : l.map actC = (l.take j).map actC ++ (rawC c, b == 1) :: (l.drop (j + 1)).map actC := by
    rw [show (rawC c, b == 1) :: (l.drop (j + 1)).map actC = (((c, b) :: l.drop (j + 1)).map actC) from rfl, ← List.map_append]
    congr 1
    have : l.drop j = (c, b) :: l.drop (j + 1) := by
      rw [List.drop_eq_getElem_cons hlt]
      congr 1
      exact (List.getElem?_eq_some_iff.1 ha).2
    rw [← this, List.take_append_drop]
  have hr1 : Rights ((l.take j).map actC) := fun x hx => hr x (by rw [hsplit]; exact List.mem_append_left _ hx)
  have hr2 : Rights ((rawC c, b == 1) :: (l.drop (j + 1)).map actC) := fun x hx => hr x (by rw [hsplit]; exact List.mem_append_right _ hx)
  have hfe : f = puts (puts encNew ((l.take j).map actC)) ((rawC c, b == 1) :: (l.drop (j + 1)).map actC) := by rw [hf, hsplit, puts_append]
  unfold Behind at h ⊢
  subst hb
  rw [hfe] at h ⊢
  obtain ⟨d', hd⟩ := got_put (puts_ok encNew_ok hr1) hr2 h
  refine ⟨d', hd, ?_⟩
  have h2 := at_got h hd
  have : (l.take (j + 1)).map actC = (l.take j).map actC ++ [(rawC c, b == 1)] := by
    rw [List.take_add_one, ha, List.map_append]
    rfl
  rw [this, puts_append]
  exact h2
theorem behind_facts {l : List (Int × Int)} {bs : List UInt8} {d : Dec} {j : Nat} (hr : Rights (l.map actC)) (h : Behind bs d l j) : 16777216 ≤ d.r ∧ d.r ≤ 4294967295 ∧ d.i ≤ bs.length := by
  have hr1 : Rights ((l.take j).map actC) := fun x hx => by
    obtain ⟨a, ha, rfl⟩ := List.mem_map.1 hx
    exact hr _ (List.mem_map.2 ⟨a, List.mem_of_mem_take ha, rfl⟩)
  have ho := puts_ok encNew_ok hr1
  unfold Behind at h
  rw [h.r, h.i]
  exact ⟨ho.lo, ho.hi, h.len⟩
theorem got_less {bs : List UInt8} {d d' : Dec} {c : Nat} {b : Bool} (h : decGet bs d c = some (b, d')) : d.rest < d.r := by
  unfold decGet at h
  split at h
  · assumption
  · cases h
theorem behind_end {l : List (Int × Int)} {f : Enc} {bs tail : List UInt8} {d : Dec} (hf : f = puts encNew (l.map actC)) (ho : f.Ok) (hb : bs = bytesOf f.n f.v) (h : Behind (bs ++ tail) d l l.length) : d.i = bs.length ∧ (tail = [] → d.rest = 0) := by
  unfold Behind at h
  rw [List.take_length, ← hf] at h
  have hl : bs.length = f.n := by rw [hb]; simp
  refine ⟨by rw [h.i, hl], fun ht => ?_⟩
  have h1 := h.val
  rw [ht, List.append_nil, ← hl, List.take_length, hb, valueOf_bytesOf, Nat.mod_eq_of_lt (by have := ho.fit; have := ho.lo; omega)] at h1
  omega

/-- The acts that were put, in a row of the law's own, and the encoder. -/
structure Bk (X : EncSpec) (w0 w : World) (p : Nat) (D : List Nat) (v : Value) (l : List (Int × Int)) : Prop where
  en : Live X w0 w p D (puts encNew (l.map actC))
  dn : w.ownsRow w0.heap.size 28 2 v l.length (l.flatMap cellsA)
  sep : ∀ k, v.ownBlock = some k → k ∉ p :: D
  good : ∀ a ∈ l, goodA a

theorem Bk.len {X : EncSpec} {w0 w : World} {p : Nat} {D : List Nat} {v : Value} {l : List (Int × Int)} (h : Bk X w0 w p D v l) : ∃ A c, v = .slice A l.length c := by
  rcases h.dn.2 with ⟨rfl, h0⟩ | ⟨g, cap, cur, rfl, _⟩
  · exact ⟨none, 0, by rw [h0]⟩
  · exact ⟨_, _, rfl⟩

set_option maxRecDepth 100000 in
set_option maxHeartbeats 8000000 in
theorem back4_law (X : EncSpec) (Y : DecSpec) (N : NextSpec) (A : Option Addr) (len cap : Nat) (acts : List (Int × Int)) (w : World) (hA : Acts2 w A len acts) (hm : len ≤ 9223372036854775807) :
    Calls Try.prog 5 #[.slice A len cap] w fun e w' => e = .returned (.bool true) ∧ Fr [] w w' := by
  have HA := Lib.hid hA; clear hA
  go_enter Try.func5, Try.ntmps5
  go_wp2_with fail
  refine (new_live (X := X) w (Fr.refl [] w)).mono ?_
  rintro e w1 ⟨p, D, rfl, hL, -, -⟩
  have hB : Bk X w w1 p D (.slice none 0 0) [] := ⟨hL, World.ownsRow_nil w1 _ _ _, by simp [Value.ownBlock], by simp⟩
  have HB := Lib.hid hB; clear hB hL
  go_wp2_with fail
  go_loopw [4, 5] (fun s4 s5 wr => ∃ (i : Nat) (D : List Nat) (l : List (Int × Int)), i ≤ len ∧ i ≤ 400 ∧ l.length ≤ i ∧ s5 = .int .i64 (i : Int) ∧ Bk X w wr p D s4 l) (fun _ s5 _ => 400 - (intOf s5).toNat)
  case atStart => exact ⟨0, D, [], by omega, by omega, by simp, rfl, HB.out⟩
  case round =>
    obtain ⟨i, D, l, hi1, hi2, hli, rfl, hB⟩ := hrel
    have HBr := Lib.hid hB; clear hB
    by_cases hlt2 : i < len ∧ i < 400
    · obtain ⟨hl1, hl2⟩ := hlt2
      have eg1 : decide (i < len) = true := by simpa using hl1
      have eg2 : decide ((i : Int) < 400) = true := by simp; omega
      obtain ⟨⟨c, b⟩, hcb⟩ : ∃ x, acts[i]? = some x := ⟨_, List.getElem?_eq_getElem (by have := HA.out.1; omega)⟩
      have hcell : ∀ W, Fr [] w W → -9223372036854775808 ≤ b ∧ b ≤ 9223372036854775807 ∧ ∃ g o, A = some ⟨g, o, none⟩ ∧ W.cell? ⟨g, o + i * 2, none⟩ = some (.int .i64 c) ∧ W.cell? ⟨g, o + i * 2 + 1, none⟩ = some (.int .i64 b) := fun W hF => (HA.out.fr hF).2 i c b hcb
      obtain ⟨lb1, lb2, g, o, rfl, -, -⟩ := hcell wr HBr.out.en.fr
      have hcells : ∀ W, Fr [] w W → W.cell? ⟨g, o + i * 2, none⟩ = some (.int .i64 c) ∧ W.cell? ⟨g, o + i * 2 + 1, none⟩ = some (.int .i64 b) := by
        intro W hF
        obtain ⟨-, -, g', o', r1, h1, h2⟩ := hcell W hF
        have r2 := Option.some.inj r1
        injection r2 with r3 r4
        subst r3 r4
        exact ⟨h1, h2⟩
      have Hcells := Lib.hid hcells
      obtain ⟨ka, kb⟩ := hcells _ HBr.out.en.fr.drew
      have hln : (puts encNew (l.map actC)).n ≤ 100000 := by
        have := puts_n (l.map actC) encNew
        simp [encNew] at this
        simp [encNew]
        omega
      have HP : Hid (∀ W, Live X w W p D (puts encNew (l.map actC)) → Calls Try.prog 12 #[pt p, .int .u16 (rawC c : Int), .int .i64 b] W fun r W' => r = .returned (.int .i64 (encAct (puts encNew (l.map actC)) (rawC c) b).1) ∧ ∃ D', Live X w W' p D' (encAct (puts encNew (l.map actC)) (rawC c) b).2 ∧ Fr (p :: D) W W' ∧ ∀ k ∈ D', k ∈ D ∨ W.heap.size ≤ k) := Lib.hid fun W hW =>
        put_total W p D _ (rawC c) b hW (rawC_lt c) lb1 lb2 hln
      have HC := Lib.hid (fun W => chance_any c W)
      have herr := encAct_err (puts encNew (l.map actC)) (rawC c) b
      have hact : goodA (c, b) → (encAct (puts encNew (l.map actC)) (rawC c) b).2 = puts encNew ((l ++ [(c, b)]).map actC) := by
        intro hgd
        unfold encAct
        rw [if_pos (show rightC (rawC c) ∧ (b = 0 ∨ b = 1) from hgd), List.map_append, puts_append]
        rfl
      have hBd : Bk X w wr.drew p D u4 l := ⟨HBr.out.en.fr0 (Fr.refl [] wr).drew, ownsRow_fr HBr.out.dn (Fr.refl [] wr).drew (by simp), HBr.out.sep, HBr.out.good⟩
      have HBd := Lib.hid hBd
      obtain ⟨E, hE⟩ : ∃ E, E = (encAct (puts encNew (l.map actC)) (rawC c) b).1 := ⟨_, rfl⟩
      obtain ⟨f', hf'⟩ : ∃ f', f' = (encAct (puts encNew (l.map actC)) (rawC c) b).2 := ⟨_, rfl⟩
      rw [← hE, ← hf'] at HP herr
      rw [← hf'] at hact
      have Hact := Lib.hid hact
      have Herr := Lib.hid herr
      have Hrc : Hid (rawC c = rawC c) := Lib.hid rfl
      obtain ⟨rc, hrc⟩ : ∃ rc, rc = rawC c := ⟨_, rfl⟩
      rw [← hrc] at HP HC Herr
      have Hrc2 := Lib.hid hrc
      clear hcell hcells hcb herr hact hBd hE hf' hrc Hrc
      go_upto_region 6 with fail
      refine wp_region_held_drew (S := fun W => W.cell? ⟨g, o + i * 2, none⟩ = some (.int .i64 c) ∧ W.cell? ⟨g, o + i * 2 + 1, none⟩ = some (.int .i64 b)) (by kernel_rfl) ?_ (fun hHeld => ?_)
      · (repeat' (first | trivial | assumption | refine ⟨?_, ?_⟩))
      refine wpAnyH_pick 0 (v := ?_) rfl (by kernel_rfl) (by kernel_rfl) (by kernel_rfl) (fun _ _ _ h => h) (by assumption) (by rfl) ?_ ?_
      rotate_left
      · (intro w hSw; (try dsimp only at hSw); go_simp) <;> (with_reducible rfl)
      (try simp only [Act.put, List.setIfInBounds_toArray, List.set_cons_zero, List.set_cons_succ])
      refine wpAnyH_pick 1 (v := ?_) rfl (by kernel_rfl) (by kernel_rfl) (by kernel_rfl) (fun _ _ _ h => h) (by assumption) (by rfl) ?_ ?_
      rotate_left
      · (intro w hSw; (try dsimp only at hSw); go_simp) <;> (with_reducible rfl)
      (try simp only [Act.put, List.setIfInBounds_toArray, List.set_cons_zero, List.set_cons_succ])
      refine wpAnyH_pick 2 (v := ?_) rfl (by kernel_rfl) (by kernel_rfl) (by kernel_rfl) (fun _ _ _ h => h) (by assumption) (by rfl) ?_ ?_
      rotate_left
      · (intro w hSw; (try dsimp only at hSw); go_simp) <;> (with_reducible rfl)
      (try simp only [Act.put, List.setIfInBounds_toArray, List.set_cons_zero, List.set_cons_succ])
      refine wpAnyH_pick 3 (v := ?_) rfl (by kernel_rfl) (by kernel_rfl) (by kernel_rfl) (fun _ _ _ h => h) (by assumption) (by rfl) ?_ ?_
      rotate_left
      · (intro w hSw; (try dsimp only at hSw); go_simp) <;> (with_reducible rfl)
      (try simp only [Act.put, List.setIfInBounds_toArray, List.set_cons_zero, List.set_cons_succ])
      refine wpAnyH_pick 4 (v := ?_) rfl (by kernel_rfl) (by kernel_rfl) (by kernel_rfl) (fun _ _ _ h => h) (by assumption) (by rfl) ?_ ?_
      rotate_left
      · (intro w hSw; (try dsimp only at hSw); go_simp) <;> (with_reducible rfl)
      (try simp only [Act.put, List.setIfInBounds_toArray, List.set_cons_zero, List.set_cons_succ])
      refine wpAnyH_pick 5 (v := ?_) rfl (by kernel_rfl) (by kernel_rfl) (by kernel_rfl) (fun _ _ _ h => h) (by assumption) (by rfl) ?_ ?_
      rotate_left
      · (intro w hSw; (try dsimp only at hSw); go_simp) <;> (with_reducible rfl)
      (try simp only [Act.put, List.setIfInBounds_toArray, List.set_cons_zero, List.set_cons_succ])
      refine wpAnyH_pick 7 (v := ?_) rfl (by kernel_rfl) (by kernel_rfl) (by kernel_rfl) (fun _ _ _ h => h) (by assumption) (by rfl) ?_ ?_
      rotate_left
      · (intro w hSw; (try dsimp only at hSw); go_simp) <;> (with_reducible rfl)
      (try simp only [Act.put, List.setIfInBounds_toArray, List.set_cons_zero, List.set_cons_succ])
      refine wpAnyH_pick 8 (v := ?_) rfl (by kernel_rfl) (by kernel_rfl) (by kernel_rfl) (fun _ _ _ h => h) (by assumption) (by rfl) ?_ ?_
      rotate_left
      · (intro w hSw; (try dsimp only at hSw); go_simp) <;> (with_reducible rfl)
      (try simp only [Act.put, List.setIfInBounds_toArray, List.set_cons_zero, List.set_cons_succ])
      refine wpAnyH_pick 9 (v := ?_) rfl (by kernel_rfl) (by kernel_rfl) (by kernel_rfl) (fun _ _ _ h => h) (by assumption) (by rfl) ?_ ?_
      rotate_left
      · (intro w hSw; (try dsimp only at hSw); go_simp) <;> (with_reducible rfl)
      (try simp only [Act.put, List.setIfInBounds_toArray, List.set_cons_zero, List.set_cons_succ])
      refine wpAnyH_pick 10 (v := ?_) rfl (by kernel_rfl) (by kernel_rfl) (by kernel_rfl) (fun _ _ _ h => h) (by assumption) (by rfl) ?_ ?_
      rotate_left
      · (intro w hSw; (try dsimp only at hSw); go_simp) <;> (with_reducible rfl)
      (try simp only [Act.put, List.setIfInBounds_toArray, List.set_cons_zero, List.set_cons_succ])
      refine wpAnyH_pick 11 (v := ?_) rfl (by kernel_rfl) (by kernel_rfl) (by kernel_rfl) (fun _ _ _ h => h) (by assumption) (by rfl) ?_ ?_
      rotate_left
      · (intro w hSw; (try dsimp only at hSw); go_simp) <;> (with_reducible rfl)
      (try simp only [Act.put, List.setIfInBounds_toArray, List.set_cons_zero, List.set_cons_succ])
      refine wpAnyH_ready (rs := [6]) (by kernel_rfl) (by simp) ?_
      refine AllReadyH_pick rfl (fun K hK => ?_) (AllReadyH.nil)
      go_simp
      refine (HC.out _).mono ?_
      rintro e wC ⟨rfl, rfl⟩
      go_wp2_with fail
      refine hK.out _ _ ?_ (fun hHeld => ?_)
      · (repeat' (first | trivial | assumption | refine ⟨?_, ?_⟩))
      clear hK K
      (try simp only [Act.put, List.setIfInBounds_toArray, List.set_cons_zero, List.set_cons_succ])
      refine wpAnyH_ready (rs := [12]) (by kernel_rfl) (by simp) ?_
      refine AllReadyH_pick rfl (fun K hK => ?_) (AllReadyH.nil)
      go_simp
      refine (HP.out _ HBd.out.en).mono ?_
      rintro e wP ⟨rfl, D', hLP, hFP, hDP⟩
      obtain ⟨kaP, kbP⟩ := Hcells.out _ hLP.fr
      have hdn := ownsRow_fr HBd.out.dn hFP HBd.out.sep
      have hsep : ∀ k, u4.ownBlock = some k → k ∉ p :: D' := by
        intro k hk hk2
        rcases List.mem_cons.1 hk2 with h | h
        · exact HBd.out.sep k hk (by rw [h]; exact List.mem_cons_self ..)
        · rcases hDP k h with h1 | h1
          · exact HBd.out.sep k hk (List.mem_cons_of_mem _ h1)
          · have := (ownsRow_new HBd.out.dn k hk).2
            omega
      have HLP := Lib.hid hLP; have Hdn := Lib.hid hdn; have Hsep := Lib.hid hsep
      clear hLP hFP hDP hdn hsep
      go_wp2_with fail
      refine hK.out _ _ ?_ (fun hHeld => ?_)
      · (repeat' (first | trivial | assumption | refine ⟨?_, ?_⟩))
      clear hK K
      (try simp only [Act.put, List.setIfInBounds_toArray, List.set_cons_zero, List.set_cons_succ])
      refine wpAnyH_pick 13 (v := ?_) rfl (by kernel_rfl) (by kernel_rfl) (by kernel_rfl) (fun _ _ _ h => h) (by assumption) (by rfl) ?_ ?_
      rotate_left
      · (intro w hSw; (try dsimp only at hSw); go_simp) <;> (with_reducible rfl)
      (try simp only [Act.put, List.setIfInBounds_toArray, List.set_cons_zero, List.set_cons_succ])
      refine wpAnyH_done (by kernel_rfl) ?_ _
      skip
      rcases Herr.out with ⟨rfl, hgood⟩ | ⟨rfl, hsame⟩
      · have Hgood := Lib.hid hgood
        clear hgood
        go_upto_region 7 with fail
        have hal : Fr [] wP (wP.alloc (.cells #[.int .i64 c, .int .i64 b] 28)) := (Fr.refl _ _).alloc _
        have Hal := Lib.hid hal
        clear hal
        go_wp2_with (at_builtin; refine wp_append_act4 w.heap.size _ _ u4 l c b wP.heap.size 1 rfl rfl rfl rfl (ownsRow_fr Hdn.out Hal.out (by simp)) ((Blk.new wP 28 #[.int .i64 c, .int .i64 b]).cell 0) ((Blk.new wP 28 #[.int .i64 c, .int .i64 b]).cell 1) (by omega) ?_ ?_)
        · have := HLP.out.fr.size
          simp
          omega
        intro vd wA hR hF hO
        have HBk : Hid (Bk X w wA p D' vd (l ++ [(c, b)])) := by
          refine Lib.hid ⟨?_, hR, ?_, ?_⟩
          · have hgd : goodA (c, b) := by
              have := Hgood.out
              rw [Hrc2.out] at this
              exact this
            rw [← Hact.out hgd]
            have h1 := HLP.out.fr0 Hal.out
            exact ⟨X.fr h1.en hF (fun k hk hm => Hsep.out k (by simpa using hm) hk), h1.fr.trans hF (fun x hx => .inr (ownsRow_new HBr.out.dn x (by simpa using hx)).1), h1.new, h1.ok⟩
          · intro k hk hm
            rcases hO with hO | hO
            · exact Hsep.out k (hO ▸ hk) hm
            · rw [hO] at hk
              injection hk with hk
              subst hk
              have := X.lt (HLP.out.fr0 Hal.out).en _ hm
              omega
          · intro a ha
            rcases List.mem_append.1 ha with ha | ha
            · exact HBr.out.good a ha
            · simp at ha
              subst ha
              have := Hgood.out
              rw [Hrc2.out] at this
              exact this
        clear hR hF hO
        go_wp2_with fail
        exact ⟨⟨i + 1, D', l ++ [(c, b)], by omega, by omega, by simp; omega, by simp, HBk.out⟩, by simp [intOf]; omega⟩
      · go_wp2_with fail
        refine ⟨⟨i + 1, D', l, by omega, by omega, by omega, by simp, ?_⟩, by simp [intOf]; omega⟩
        exact ⟨by rw [← hsame]; exact HLP.out, Hdn.out, Hsep.out, HBr.out.good⟩
    · have hex : (decide (i < len) = false) ∨ (decide (i < len) = true ∧ decide ((i : Int) < 400) = false) := by
        by_cases h1 : i < len
        · exact .inr ⟨by simpa using h1, by simp; omega⟩
        · exact .inl (by simpa using h1)
      have hln : (puts encNew (l.map actC)).n ≤ 404 := by
        have := puts_n (l.map actC) encNew
        simp [encNew] at this
        simp [encNew]
        omega
      have hen := HBr.out.en
      have hdn := HBr.out.dn
      have hrg := rights_of HBr.out.good
      have hgd := HBr.out.good
      have hok := puts_ok encNew_ok hrg
      obtain ⟨A0, c0, hu4⟩ := HBr.out.len
      obtain ⟨f, hf⟩ : ∃ f, f = puts encNew (l.map actC) := ⟨_, rfl⟩
      have hf1 : 4 ≤ f.n := by rw [hf]; exact (puts_within encNew_ok hrg).1
      rw [← hf] at hln hen hok
      have Hf := Lib.hid hf
      have Hrg := Lib.hid hrg
      have Hen := Lib.hid hen
      have Hdn := Lib.hid hdn
      have Hgd := Lib.hid hgd
      have Hok := Lib.hid hok
      clear hf hrg hen hdn hgd hok HBr HA
      have HBy : Hid (∀ W, Live X w W p D f → Calls Try.prog 17 #[pt p] W fun r W' => ∃ A c, r = .returned (.slice A f.n c) ∧ Src W' (.slice A f.n c) ((bytesOf f.n f.v).map B8) ∧ Live X w W' p D f ∧ Fr [] W W') := Lib.hid fun W hW => bytes_live W p D f hW (by omega)
      obtain ⟨bs, hbs⟩ : ∃ bs, bs = bytesOf f.n f.v := ⟨_, rfl⟩
      have hbl : bs.length = f.n := by rw [hbs]; simp
      rw [← hbs, ← hbl] at HBy
      obtain ⟨N0, hN0⟩ : ∃ N0, N0 = f.n := ⟨_, rfl⟩
      have Hbs := Lib.hid hbs
      have Hbl := Lib.hid hbl
      have hb4 : 4 ≤ bs.length := by omega
      have hb5 : bs.length ≤ 404 := by omega
      clear hbs hbl hN0 hln hf1
      rcases hex with eg1 | ⟨eg1, eg2⟩
      case' inl => go_upto_region 8 with fail
      case' inr => go_upto_region 8 with fail
      all_goals
        go_wp2_with fail
        refine (HBy.out _ Hen.out).mono ?_
        rintro e w3 ⟨A3, c3, rfl, hS3, hL3, hF3⟩
        have HS3 := Lib.hid hS3
        have HF3 := Lib.hid hL3.fr
        have hdc : DoneCells w3 A0 l := (done_cells (hu4 ▸ Hdn.out)).fr hF3 (by simp)
        have hAlt : ∀ ad, A0 = some ad → ad.block < w3.heap.size := fun ad had => by
          have := (ownsRow_new Hdn.out ad.block (by rw [hu4, had]; rfl)).2
          have := hF3.size
          omega
        have HAlt := Lib.hid hAlt
        have HDc := Lib.hid hdc
        clear hS3 hL3 hF3 hdc hAlt Hen
        have HO := Lib.hid (Y.opens w3 A3 c3 bs HS3.out hb4 (by omega))
        clear HBy
        go_wp2_with fail
        refine HO.out.mono ?_
        rintro e w4 ⟨y, K, rfl, hY, hF4, hy, -, -⟩
        have hylt := Y.lt hY
        have hS4 := HS3.out.fr0 hF4
        have hF04 : Fr [] w w4 := HF3.out.trans hF4 (by simp)
        have hy0 : w.heap.size ≤ y := Nat.le_trans HF3.out.size hy
        have hd4 := HDc.out.fr hF4 (by simp)
        have hA4 : ∀ ad, A0 = some ad → ad.block ≠ y ∧ ad.block < w4.heap.size := fun ad had => by
          have := HAlt.out ad had
          have := hF4.size
          omega
        have HY := Lib.hid hY; have Hylt := Lib.hid hylt; have HS4 := Lib.hid hS4; have HF4 := Lib.hid hF04; have Hy0 := Lib.hid hy0; have Hd4 := Lib.hid hd4; have HA4 := Lib.hid hA4
        clear hY hylt hS4 hF04 hy0 hd4 hA4 hF4 hy HS3 HF3 HDc HAlt HO
        go_wp2_with (at_builtin; refine wp_append_u8 _ _ (.slice (some ⟨w4.heap.size, 0, none⟩) 0 0) [] (.slice A3 bs.length c3) bs rfl rfl rfl rfl (Own.lit w4 5 #[] 0 rfl (by simp [maxLen])) (HS4.out.fr0 ((Fr.refl _ _).alloc _)) (by simp; omega) ?_)
        intro v5 w5 hO hG
        have hM := Mine.copied (xs := bs) hO hG (Fr.refl _ w4)
        have HM := Lib.hid hM; clear hM hO hG
        have hs0 : Src (w5.alloc (.cells #[.int .u8 0] 5)) (.slice (some ⟨w5.heap.size, 0, none⟩) 1 1) (([0] : List UInt8).map B8) := Src.one ((Blk.new w5 5 #[.int .u8 0]).cell 0)
        have hm5 := HM.out.fr0 ((Fr.refl [] _).alloc (.cells #[.int .u8 0] 5))
        have Hs0 := Lib.hid hs0; have Hm5 := Lib.hid hm5; clear hs0 hm5
        go_wp2_with (at_builtin; refine wp_append_u8 _ _ v5 bs (.slice (some ⟨w5.heap.size, 0, none⟩) 1 1) [0] rfl rfl rfl rfl Hm5.out.own Hs0.out (by rw [List.length_singleton]; omega) ?_)
        intro v6 w6 hO hG
        have hM := Hm5.out.appended (ys := [0]) (by rw [List.map_append]; exact hO) hG
        clear hO hG HM Hm5 Hs0
        obtain ⟨A6, c6, rfl⟩ := hM.slice
        have hO2 := Y.opens w6 A6 c6 (bs ++ [0]) hM.src (by simp; omega) (by simp; omega)
        obtain ⟨L6, hL6⟩ : ∃ L6, L6 = (bs ++ [0]).length := ⟨_, rfl⟩
        rw [← hL6] at hO2 hM ⊢
        have HM := Lib.hid hM; have HO2 := Lib.hid hO2; clear hM hO2 hL6
        go_wp2_with fail
        refine HO2.out.mono ?_
        rintro e w7 ⟨z, M, rfl, hZ, hF7, hz, hzM, hM2⟩
        have h57 := HM.out.fr.trans hF7 (by simp)
        have hBo : Both Y w w7 A0 l y K z M bs (decOpen bs) (decOpen (bs ++ [0])) := by
          have hs := HM.out.fr.size
          refine ⟨Y.fr HY.out h57 (by simp), hZ, HF4.out.trans h57 (by simp), Hy0.out, ?_, ?_, ?_, Hd4.out.fr h57 (by simp), ?_⟩
          · have := HF4.out.size; omega
          · intro k hk
            have := Hylt.out k hk
            omega
          · intro k hk
            have hyl := Hylt.out y (List.mem_cons_self ..)
            rcases List.mem_cons.1 hk with rfl | hk
            · omega
            · rcases hM2 k hk with h | ⟨ad, rfl, h⟩
              · omega
              · have := HM.out.new k (by rw [← h]; rfl)
                omega
          · intro ad had
            have := HA4.out ad had
            exact ⟨this.1, by omega⟩
        have HBo := Lib.hid hBo
        clear hBo hZ hF7 hz hzM hM2 h57 HM HO2 HA4 Hd4 Hy0 HF4 Hylt HY HS4
        go_wp2_with fail
        go_loopw [11] (fun s11 wr => ∃ (j : Nat) (d e : Dec), j ≤ l.length ∧ s11 = .int .i64 (j : Int) ∧ Behind (bs ++ []) d l j ∧ Behind (bs ++ [0]) e l j ∧ Both Y w wr A0 l y K z M bs d e) (fun s11 _ => l.length - (intOf s11).toNat)
        case atStart => exact ⟨0, _, _, by omega, rfl, behind_zero l (by simp; omega), behind_zero l (by simp; omega), by rw [List.append_nil]; exact HBo.out⟩
        case round =>
          obtain ⟨j, d, e, hj, rfl, hbd, hbe, hB⟩ := hrel
          have HBr := Lib.hid hB
          have Hbd := Lib.hid hbd
          have Hbe := Lib.hid hbe
          clear hB hbd hbe HBo
          by_cases hjl : j < l.length
          · have ej : decide (j < l.length) = true := by simpa using hjl
            obtain ⟨⟨c, b⟩, hcb⟩ : ∃ x, l[j]? = some x := ⟨_, List.getElem?_eq_getElem hjl⟩
            have hgood := Hgd.out (c, b) (List.mem_of_getElem? hcb)
            have hrc : rightC (rawC c) := hgood.1
            have hb01 := bit_of hgood
            obtain ⟨d1, hd1, hbd1⟩ := behind_step Hf.out Hrg.out Hbs.out hcb Hbd.out
            obtain ⟨z1, hz1, hbz1⟩ := behind_step Hf.out Hrg.out Hbs.out hcb Hbe.out
            obtain ⟨q1, q2, q3⟩ := behind_facts Hrg.out Hbd.out
            obtain ⟨q4, q5, q6⟩ := behind_facts Hrg.out Hbe.out
            have q7 := got_less hd1
            have q8 := got_less hz1
            rw [List.append_nil] at hd1 q3
            obtain ⟨g, rfl, -, -⟩ := HBr.out.cells j c b hcb
            have hcell : ∀ W d e, Both Y w W (some ⟨g, 0, none⟩) l y K z M bs d e → W.cell? ⟨g, j * 2, none⟩ = some (.int .i64 c) ∧ W.cell? ⟨g, j * 2 + 1, none⟩ = some (.int .i64 b) := by
              intro W d e hW
              obtain ⟨g', r1, h1, h2⟩ := hW.cells j c b hcb
              have r2 := Option.some.inj r1
              injection r2 with r3
              subst r3
              exact ⟨h1, h2⟩
            have Hcell := Lib.hid hcell
            have HGy : Hid (∀ W, Both Y w W (some ⟨g, 0, none⟩) l y K z M bs d e → Calls Try.prog 22 #[pt y, .int .u16 (rawC c : Int)] W fun r W' => r = .returned (.tuple #[.int .i64 b, .int .i64 0]) ∧ Both Y w W' (some ⟨g, 0, none⟩) l y K z M bs d1 e) := Lib.hid fun W hW => by
              refine (Y.get W y K bs d (rawC c) hW.dy hrc (by omega) q1 q2 q3 (by omega)).mono ?_
              rintro r W' (⟨bit, d', hg, rfl, hD, hF⟩ | ⟨hg, -⟩)
              · rw [hd1] at hg
                injection hg with hg
                injection hg with hg1 hg2
                subst hg1 hg2
                exact ⟨by rw [hb01], hW.gotY hF hD⟩
              · rw [hd1] at hg; cases hg
            have HGz : Hid (∀ W, Both Y w W (some ⟨g, 0, none⟩) l y K z M bs d1 e → Calls Try.prog 22 #[pt z, .int .u16 (rawC c : Int)] W fun r W' => r = .returned (.tuple #[.int .i64 b, .int .i64 0]) ∧ Both Y w W' (some ⟨g, 0, none⟩) l y K z M bs d1 z1) := Lib.hid fun W hW => by
              refine (Y.get W z M (bs ++ [0]) e (rawC c) hW.dz hrc (by omega) q4 q5 q6 (by simp; omega)).mono ?_
              rintro r W' (⟨bit, d', hg, rfl, hD, hF⟩ | ⟨hg, -⟩)
              · rw [hz1] at hg
                injection hg with hg
                injection hg with hg1 hg2
                subst hg1 hg2
                exact ⟨by rw [hb01], hW.gotZ hF hD⟩
              · rw [hz1] at hg; cases hg
            have HC := Lib.hid (fun W => chance_any c W)
            obtain ⟨rc, hrce⟩ : ∃ rc, rc = rawC c := ⟨_, rfl⟩
            rw [← hrce] at HC HGy HGz
            have Hb1 := Lib.hid hbd1
            have Hz1 := Lib.hid hbz1
            have hB0 := HBr.out.fr0 (Fr.refl [] wr).drew
            obtain ⟨ka, kb⟩ := Hcell.out _ _ _ HBr.out
            clear hd1 hz1 hbd1 hbz1 q1 q2 q3 q4 q5 q6 q7 q8 hrce hrc hb01 hgood hcb hcell hB0
            go_wp2_with fail
            refine (HC.out _).mono ?_
            rintro e1 wC ⟨rfl, rfl⟩
            go_wp2_with fail
            refine (HGy.out _ HBr.out).mono ?_
            rintro e1 w8 ⟨rfl, hB8⟩
            obtain ⟨ka8, kb8⟩ := Hcell.out _ _ _ hB8
            have HB8 := Lib.hid hB8
            clear hB8 ka kb HGy HBr
            go_wp2_with fail
            refine (HC.out _).mono ?_
            rintro e1 wC ⟨rfl, rfl⟩
            go_wp2_with fail
            refine (HGz.out _ HB8.out).mono ?_
            rintro e1 w9 ⟨rfl, hB9⟩
            obtain ⟨ka9, kb9⟩ := Hcell.out _ _ _ hB9
            have HB9 := Lib.hid hB9
            clear hB9 ka8 kb8 HGz HB8
            have ebb : (b != b) = false := by simp
            go_wp2_with fail
            go_roundw
            case rel => exact ⟨j + 1, d1, z1, by omega, by simp, Hb1.out, Hz1.out, HB9.out⟩
            case measure => simp [intOf]; omega
          · have hjl2 : j = l.length := by omega
            have ej : decide (j < l.length) = false := by simpa using hjl
            have hbd := Hbd.out
            have hbe := Hbe.out
            rw [hjl2] at hbd hbe
            obtain ⟨y1, y2⟩ := behind_end Hf.out Hok.out Hbs.out hbd
            obtain ⟨z1, -⟩ := behind_end Hf.out Hok.out Hbs.out hbe
            have y3 := y2 rfl
            have HEy : Hid (∀ W, Both Y w W A0 l y K z M bs d e → Calls Try.prog 24 #[pt y] W fun r W' => r = .returned (.int .i64 0) ∧ ∃ m, W' = W.drewN m) := Lib.hid fun W hW => by
              have := Y.ends W y K bs d hW.dy
              rw [if_pos ⟨y1, y3⟩] at this
              exact this
            have HEz : Hid (∀ W, Both Y w W A0 l y K z M bs d e → Calls Try.prog 24 #[pt z] W fun r W' => r = .returned (.int .i64 41) ∧ ∃ m, W' = W.drewN m) := Lib.hid fun W hW => by
              have := Y.ends W z M (bs ++ [0]) e hW.dz
              rw [if_neg (by rw [z1]; simp)] at this
              exact this
            clear hjl2 hbd hbe y1 y2 y3 z1
            go_wp2_with fail
            refine (alive4_any X Y N _).mono ?_
            rintro e1 w8 ⟨rfl, hF8⟩
            have HB8 := Lib.hid (HBr.out.fr0 hF8)
            clear hF8 HBr
            go_wp2_with fail
            refine (HEy.out _ HB8.out).mono ?_
            rintro e1 w9 ⟨rfl, m9, hm9⟩
            have HB9 := Lib.hid (HB8.out.fr0 (w' := w9) (by rw [hm9]; exact (Fr.refl _ _).drewN m9))
            clear hm9 HB8
            go_wp2_with fail
            refine (HEz.out _ HB9.out).mono ?_
            rintro e1 w10 ⟨rfl, m10, hm10⟩
            have HB10 := Lib.hid (HB9.out.fr0 (w' := w10) (by rw [hm10]; exact (Fr.refl _ _).drewN m10))
            clear hm10 HB9
            go_wp2_with fail
            go_ret
            exact ⟨rfl, HB10.out.fr⟩
end Go.Proofs.Ytfnmplipbgdniaa
