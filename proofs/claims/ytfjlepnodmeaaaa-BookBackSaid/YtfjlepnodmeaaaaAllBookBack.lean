/-
  The law BookBack (there and back) answers true whatever its input, and leaves its arguments as they were; no condition.
-/
import Derived.Maps.AppendAt
import Derived.Test.YtfjlepnodmeaaaaAll1
import Derived.Test.YtfjlepnodmeaaaaAll2
import Derived.Test.YtfjlepnodmeaaaaAll3
/-
  What the law BookBack goes through: the acts that were put, in a row of its own; their bits, there and back.
-/
namespace Go.Proofs.Ytfjlepnodmeaaaa
open Go.RowKit

theorem ownsRow_fr {w w' : World} {base : Nat} {e : TypeId} {s : Nat} {v : Value} {n : Nat} {xs : List Value} {S : List Nat} (h : w.ownsRow base e s v n xs) (hf : Fr S w w') (hn : ∀ k, v.ownBlock = some k → k ∉ S) : w'.ownsRow base e s v n xs := by
  refine ⟨h.1, ?_⟩
  rcases h.2 with h0 | ⟨g, cap, cur, rfl, hb, hgg, rest⟩
  · exact .inl h0
  · refine .inr ⟨g, cap, cur, rfl, hb, ?_, rest⟩
    rw [hf.block g (Array.getElem?_eq_some_iff.1 hgg).1 (hn g rfl)]
    exact hgg
theorem ownsRow_new {w : World} {base : Nat} {e : TypeId} {s : Nat} {v : Value} {n : Nat} {xs : List Value} (h : w.ownsRow base e s v n xs) : ∀ k, v.ownBlock = some k → base ≤ k ∧ k < w.heap.size := by
  intro k hk
  rcases h.2 with ⟨rfl, _⟩ | ⟨g, cap, cur, rfl, hb, hgg, rest⟩
  · simp [Value.ownBlock] at hk
  · have : g = k := by simpa [Value.ownBlock] using hk
    subst this
    exact ⟨hb, (Array.getElem?_eq_some_iff.1 hgg).1⟩

/-! Acts as cells. -/
def cells5 (a : Act5) : List Value := [.int .i64 a.1, .int .i64 a.2.1, .int .i64 a.2.2.1, .int .i64 a.2.2.2]
theorem flat5_len : ∀ l : List Act5, (l.flatMap cells5).length = l.length * 4
  | [] => rfl
  | a :: l => by
    have := flat5_len l
    simp only [List.flatMap_cons, List.length_append, List.length_cons, this]
    simp [cells5]; omega
theorem flat5_at : ∀ (l : List Act5) (i : Nat) (a : Act5) (j : Nat), l[i]? = some a → j < 4 → (l.flatMap cells5)[i * 4 + j]? = (cells5 a)[j]?
  | [], i, a, j, h, _ => by simp at h
  | x :: l, 0, a, j, h, hj => by
    simp at h
    subst h
    rw [List.flatMap_cons, List.getElem?_append_left (by simp [cells5]; omega)]
    simp
  | x :: l, i + 1, a, j, h, hj => by
    have := flat5_at l i a j (by simpa using h) hj
    rw [List.flatMap_cons, List.getElem?_append_right (by simp [cells5]; omega), ← this]
    congr 1
    simp [cells5]; omega

theorem info_act5 : (Try.prog.info? 33).map (fun i => (i.zero, i.size, i.bytes)) = some (some (.agg #[.int .i64 0, .int .i64 0, .int .i64 0, .int .i64 0]), 4, 32) := by kernel_rfl

def Done5 (base : Nat) (w : World) (v : Value) (l : List Act5) : Prop := w.ownsRow base 33 4 v l.length (l.flatMap cells5)
def Moved5 (w : World) (v v' : Value) : Prop := v'.ownBlock = v.ownBlock ∨ v'.ownBlock = some w.heap.size

/-- append of one act onto the acts that were put. -/
theorem wp_append_act5 {w : World} {ops : Array Oper} {rest : List Oper} {o : Oper} {a : Act} {Q : Exit → Act → World → Prop} (base : Nat) (s x : Operand) (v : Value) (l : List Act5) (k : Act5) (g c : Nat)
    (hgd : o.guard = none) (ho : o.op = .call { callee := .builtin .append, args := #[s, x], argTypes := #[22, 22] })
    (hv : a.eval s = v) (hx : a.eval x = .slice (some ⟨g, 0, none⟩) 1 c) (hown : w.ownsRow base 33 4 v l.length (l.flatMap cells5))
    (h0 : ActAt w g 0 k) (hlen : l.length ≤ 1000000) (hb : base ≤ w.heap.size)
    (h : ∀ v' w', Done5 base w' v' (l ++ [k]) → Fr v.ownBlock.toList w w' → Moved5 w v v' → wpList Try.prog ops Q rest (a.put o.dst v') w') : wpList Try.prog ops Q (o :: rest) a w := by
  have hi0 : ∃ i, Try.prog.info? 33 = some i ∧ i.zero = some (.agg #[.int .i64 0, .int .i64 0, .int .i64 0, .int .i64 0]) ∧ i.size = 4 ∧ i.bytes = 32 := info_parts info_act5
  obtain ⟨i, hi, hz, hs, hby⟩ := hi0
  refine wpList_append_own_at w hgd s x 22 ho base 33 i _ 4 32 Try.underlying22 hi hz hs hby rfl (by omega) v l.length (l.flatMap cells5) hv hown ⟨g, 0, none⟩ 1 c (cells5 k) hx rfl ?_ ?_ (by simp only [maxLen]; omega) (by omega) hb ?_
  · intro j u hu
    rw [show ((⟨g, 0, none⟩ : Addr).add j) = ⟨g, j, none⟩ by cases j <;> simp [Addr.add]]
    obtain ⟨k0, k1, k2, k3⟩ := h0
    match j, hu with
    | 0, hu => simp [cells5] at hu; subst hu; exact k0
    | 1, hu => simp [cells5] at hu; subst hu; exact k1
    | 2, hu => simp [cells5] at hu; subst hu; exact k2
    | 3, hu => simp [cells5] at hu; subst hu; exact k3
  · intro u hu
    simp [cells5] at hu
    rcases hu with rfl | rfl | rfl | rfl <;> rfl
  · intro v' w' k1 k2 _ k4
    refine h v' w' ?_ ((Fr.refl _ _).grown k2 (fun k hk => .inl (by simp [hk]))) k4
    unfold Done5
    rw [List.length_append, show (l ++ [k]).flatMap cells5 = l.flatMap cells5 ++ cells5 k by simp]
    exact k1

def DoneCells5 (w : World) (A : Option Addr) (l : List Act5) : Prop := ∀ (j : Nat) (a : Act5), l[j]? = some a → ∃ g, A = some ⟨g, 0, none⟩ ∧ ActAt w g (j * 4) a
theorem done5_cells {w : World} {base : Nat} {A : Option Addr} {n c : Nat} {l : List Act5} (h : w.ownsRow base 33 4 (.slice A n c) l.length (l.flatMap cells5)) : DoneCells5 w A l := by
  intro j a hj
  have hlt := (List.getElem?_eq_some_iff.1 hj).1
  rcases h.2 with ⟨h0, h1⟩ | ⟨g, cap, cur, hv, -, hg, hc, -, hs, ht⟩
  · omega
  · injection hv with hv
    subst hv
    have f : ∀ i, i < 4 → w.cell? ⟨g, j * 4 + i, none⟩ = (cells5 a)[i]? := by
      intro i hi
      have := flat5_at l j a i hj hi
      rw [World.cell?]
      simp only [hg]
      rw [← ht, List.getElem?_take_of_lt (by omega)] at this
      simpa using this
    exact ⟨g, rfl, f 0 (by omega), f 1 (by omega), f 2 (by omega), f 3 (by omega)⟩
theorem ActAt.frS {w w' : World} {g o : Nat} {a : Act5} {S : List Nat} (h : ActAt w g o a) (hf : Fr S w w') (hg : g ∉ S) : ActAt w' g o a := by
  have f : ∀ (j : Nat) (u : Value), w.cell? ⟨g, j, none⟩ = some u → w'.cell? ⟨g, j, none⟩ = some u := fun j u hu => (hf.cell (World.block_lt_of_cell? w _ hu) hg).trans hu
  exact ⟨f _ _ h.1, f _ _ h.2.1, f _ _ h.2.2.1, f _ _ h.2.2.2⟩
theorem DoneCells5.fr {w w' : World} {A : Option Addr} {l : List Act5} {S : List Nat} (h : DoneCells5 w A l) (hf : Fr S w w') (hs : ∀ ad, A = some ad → ad.block ∉ S) : DoneCells5 w' A l := by
  intro j a hj
  obtain ⟨g, rfl, h1⟩ := h j a hj
  exact ⟨g, rfl, h1.frS hf (hs _ rfl)⟩

/-! What acts one behind the other make of the chances and of the code; their bits. -/
def seqB : Chs → List Act5 → Chs
  | B, [] => B
  | B, a :: l => seqB (bkAct a B) l
def seqE : Chs → Enc → List Act5 → Enc
  | _, e, [] => e
  | B, e, a :: l => seqE (bkAct a B) (enAct a B e) l
def bitsOfAct (a : Act5) (B : Chs) : List (Nat × Bool) := match evsOf a with | none => [] | some l => track (topicOf a) B l
def seqT : Chs → List Act5 → List (Nat × Bool)
  | _, [] => []
  | B, a :: l => bitsOfAct a B ++ seqT (bkAct a B) l
theorem seqB_snoc : ∀ (l : List Act5) (a : Act5) (B : Chs), seqB B (l ++ [a]) = bkAct a (seqB B l)
  | [], _, _ => rfl
  | x :: l, a, B => seqB_snoc l a (bkAct x B)
theorem seqE_snoc : ∀ (l : List Act5) (a : Act5) (B : Chs) (e : Enc), seqE B e (l ++ [a]) = enAct a (seqB B l) (seqE B e l)
  | [], _, _, _ => rfl
  | x :: l, a, B, e => seqE_snoc l a (bkAct x B) (enAct x B e)
theorem enAct_puts (a : Act5) (B : Chs) (e : Enc) : enAct a B e = puts e (bitsOfAct a B) := by
  unfold enAct bitsOfAct
  cases evsOf a <;> rfl
theorem seqE_puts : ∀ (l : List Act5) (B : Chs) (e : Enc), seqE B e l = puts e (seqT B l)
  | [], _, _ => rfl
  | a :: l, B, e => by
    show seqE (bkAct a B) (enAct a B e) l = puts e (bitsOfAct a B ++ seqT (bkAct a B) l)
    rw [puts_append, seqE_puts l, enAct_puts]
theorem bitsOfAct_right (a : Act5) {B : Chs} (h : FineB B) : Rights (bitsOfAct a B) := by
  unfold bitsOfAct
  split
  · exact fun x hx => by cases hx
  · exact track_rights _ _ h
theorem seqT_right : ∀ (l : List Act5) {B : Chs}, FineB B → Rights (seqT B l)
  | [], _, _ => fun x hx => by cases hx
  | a :: l, B, h => fun x hx => by
    rcases List.mem_append.1 hx with hx | hx
    · exact bitsOfAct_right a h x hx
    · exact seqT_right l (bkAct_fine h) x hx
theorem seqB_fine : ∀ (l : List Act5) {B : Chs}, FineB B → FineB (seqB B l)
  | [], _, h => h
  | a :: l, _, h => seqB_fine l (bkAct_fine h)
/-- An act is got. -/
theorem Ahd.got {tl bs : List UInt8} {d : Dec} {a : Act5} {B : Chs} {L : List (Nat × Bool)} (ha : ∃ l, evsOf a = some l) (h : Ahd tl bs d (bitsOfAct a B ++ L)) :
    ∃ d', gotOf bs a B d = .ok a.2.2.2 (bkAct a B) d' ∧ Ahd tl bs d' L := by
  obtain ⟨l, hl⟩ := ha
  unfold bitsOfAct at h
  unfold bkAct gotOf
  rw [hl] at h ⊢
  exact Ahd.act hl B d h

/-- The acts that were put, the book and the encoder. -/
structure Bk5 {X : EncSpec} {Y : DecSpec} (Z : BookSpec X Y) (w0 w : World) (b p : Nat) (D : List Nat) (v : Value) (l : List Act5) : Prop where
  q : Quill Z w0 w b (seqB newBook l) p D (seqE newBook encNew l)
  dn : w.ownsRow w0.heap.size 33 4 v l.length (l.flatMap cells5)
  sep : ∀ k, v.ownBlock = some k → k ∉ b :: p :: D
  good : ∀ a ∈ l, InA a ∧ ∃ m, evsOf a = some m
section
variable {X : EncSpec} {Y : DecSpec} {Z : BookSpec X Y} {w0 w w' : World} {b p : Nat} {D : List Nat} {v : Value} {l : List Act5} {a : Act5} {r : Ending}
theorem Bk5.fr0 (h : Bk5 Z w0 w b p D v l) (hf : Fr [] w w') : Bk5 Z w0 w' b p D v l := ⟨h.q.fr0 hf, ownsRow_fr h.dn hf (by simp), h.sep, h.good⟩
theorem Bk5.len (h : Bk5 Z w0 w b p D v l) : ∃ A c, v = .slice A l.length c := by
  rcases h.dn.2 with ⟨rfl, h0⟩ | ⟨g, cap, cur, rfl, _⟩
  · exact ⟨none, 0, by rw [h0]⟩
  · exact ⟨_, _, rfl⟩
/-- Behind: the first book, a second one with the decoder, the acts' row. -/
structure Ret5 (Z : BookSpec X Y) (w0 w : World) (b : Nat) (Bf : Chs) (c : Nat) (B : Chs) (y : Nat) (K : List Nat) (bs : List UInt8) (d : Dec) (A : Option Addr) (l : List Act5) : Prop where
  lens : Lens Z w0 w c B y K bs d
  bk : Z.Bo w b Bf
  nb : b ≠ c ∧ b ≠ y
  cells : DoneCells5 w A l
  apart : ∀ ad, A = some ad → ad.block ≠ c ∧ ad.block ≠ y
theorem Ret5.fr0 {b c y : Nat} {Bf B : Chs} {K : List Nat} {bs : List UInt8} {d : Dec} {A : Option Addr} (h : Ret5 Z w0 w b Bf c B y K bs d A l) (hf : Fr [] w w') : Ret5 Z w0 w' b Bf c B y K bs d A l :=
  ⟨h.lens.fr0 hf, Z.fr h.bk hf (by simp), h.nb, h.cells.fr hf (by simp), h.apart⟩
theorem Ret5.got {b c y : Nat} {Bf B B' : Chs} {K : List Nat} {bs : List UInt8} {d d' : Dec} {A : Option Addr} (h : Ret5 Z w0 w b Bf c B y K bs d A l) (hL : Lens Z w0 w' c B' y K bs d') (hf : Fr [c, y] w w') : Ret5 Z w0 w' b Bf c B' y K bs d' A l :=
  ⟨hL, Z.fr h.bk hf (by simp; exact h.nb), h.nb, h.cells.fr hf (fun ad had => by simp; exact h.apart ad had), h.apart⟩
/-- Where the second book and the decoder are, behind the first j acts. -/
def Beh5 (bs : List UInt8) (d : Dec) (B : Chs) (l : List Act5) (j : Nat) : Prop := B = seqB newBook (l.take j) ∧ Ahd [] bs d (seqT B (l.drop j))
theorem beh5_step {bs : List UInt8} {d : Dec} {B : Chs} {l : List Act5} {j : Nat} {a : Act5} (ha : l[j]? = some a) (hg : ∃ m, evsOf a = some m) (h : Beh5 bs d B l j) : ∃ d', gotOf bs a B d = .ok a.2.2.2 (bkAct a B) d' ∧ Beh5 bs d' (bkAct a B) l (j + 1) := by
  obtain ⟨h1, h2⟩ := h
  have hlt := (List.getElem?_eq_some_iff.1 ha).1
  have hd : l.drop j = a :: l.drop (j + 1) := by
    rw [List.drop_eq_getElem_cons hlt]
    congr 1
    exact (List.getElem?_eq_some_iff.1 ha).2
  rw [hd] at h2
  obtain ⟨d', k1, k2⟩ := Ahd.got hg h2
  refine ⟨d', k1, ?_, k2⟩
  rw [List.take_add_one, ha, Option.toList_some, seqB_snoc, ← h1]
theorem beh5_end {bs : List UInt8} {d : Dec} {B : Chs} {l : List Act5} {j : Nat} (hj : l.length ≤ j) (h : Beh5 bs d B l j) : B = seqB newBook l ∧ d.i = bs.length ∧ d.rest = 0 := by
  obtain ⟨h1, h2⟩ := h
  rw [List.take_of_length_le hj] at h1
  rw [List.drop_of_length_le hj] at h2
  exact ⟨h1, h2.done⟩
theorem seqE_n : ∀ (l : List Act5) (B : Chs) (e : Enc), (seqE B e l).n ≤ e.n + 42 * l.length
  | [], _, e => by show e.n ≤ _; omega
  | a :: l, B, e => by
    have h1 := seqE_n l (bkAct a B) (enAct a B e)
    have h2 := enAct_n a B e
    show (seqE (bkAct a B) (enAct a B e) l).n ≤ _
    simp only [List.length_cons]
    omega
end
end Go.Proofs.Ytfjlepnodmeaaaa

/-
  The law BookBack answers true whatever its input, out of the contracts; no condition.
-/
namespace Go.Proofs.Ytfjlepnodmeaaaa
open Go.RowKit

attribute [local go_sem ↓] cv_rule

set_option maxRecDepth 100000 in
set_option maxHeartbeats 8000000 in
theorem back5_law {X : EncSpec} {Y : DecSpec} (Z : BookSpec X Y) (A : Option Addr) (len cap : Nat) (acts : List Act5) (w : World) (hA : Acts5 w A len acts) (hm : len ≤ 9223372036854775807) :
    Calls Try.prog 5 #[.slice A len cap] w fun e w' => e = .returned (.bool true) ∧ Fr [] w w' := by
  have HA := Lib.hid hA; clear hA
  go_enter Try.func5, Try.ntmps5
  go_wp2_with fail
  refine (Z.new w).mono ?_
  rintro e w1 ⟨b, rfl, hb, hF1, nb⟩
  have HB := Lib.hid hb; have HF1 := Lib.hid hF1; have NB := Lib.hid nb
  clear hb hF1 nb
  go_wp2_with fail
  refine (new_live (X := X) w1 HF1.out).mono ?_
  rintro e w2 ⟨p, D, rfl, hL, hF2, np⟩
  have hK : Bk5 Z w w2 b p D (.slice none 0 0) [] := by
    refine ⟨⟨Z.fr HB.out hF2 (by simp), hL, NB.out, fun hm => by have := np b hm; have := Z.lt HB.out; omega, newBook_fine⟩, World.ownsRow_nil w2 _ _ _, by simp [Value.ownBlock], by simp⟩
  have HK := Lib.hid hK
  clear hK hL hF2 np HB HF1 NB
  go_wp2_with fail
  go_loopw [5, 6] (fun s5 s6 wr => ∃ (i : Nat) (D : List Nat) (l : List Act5), i ≤ len ∧ i ≤ 100 ∧ l.length ≤ i ∧ s6 = .int .i64 (i : Int) ∧ Bk5 Z w wr b p D s5 l) (fun _ s6 _ => 100 - (intOf s6).toNat)
  case atStart => exact ⟨0, D, [], by omega, by omega, by simp, rfl, HK.out⟩
  case round =>
    obtain ⟨i, D, l, hi1, hi2, hli, rfl, hK⟩ := hrel
    have HKr := Lib.hid hK; clear hK HK
    by_cases hlt2 : i < len ∧ i < 100
    · obtain ⟨hl1, hl2⟩ := hlt2
      have eg1 : decide (i < len) = true := by simpa using hl1
      have eg2 : decide ((i : Int) < 100) = true := by simp; omega
      obtain ⟨a, ha⟩ : ∃ x, acts[i]? = some x := ⟨_, List.getElem?_eq_getElem (by have := HA.out.1; omega)⟩
      have hcell : ∀ W, Fr [] w W → InA a ∧ ∃ g o, A = some ⟨g, o, none⟩ ∧ ActAt W g (o + i * 4) a := fun W hF => (HA.out.fr hF).2 i a ha
      obtain ⟨hia, g, o, rfl, -⟩ := hcell w (Fr.refl _ _)
      have hcells : ∀ W, Fr [] w W → ActAt W g (o + i * 4) a := by
        intro W hF
        obtain ⟨-, g', o', r1, h1⟩ := hcell W hF
        have r2 := Option.some.inj r1
        injection r2 with r3 r4
        subst r3 r4
        exact h1
      obtain ⟨B, hB⟩ : ∃ B, B = seqB newBook l := ⟨_, rfl⟩
      obtain ⟨e, he⟩ : ∃ e, e = seqE newBook encNew l := ⟨_, rfl⟩
      have hen : e.n ≤ 5000 := by
        have h1 := seqE_n l newBook encNew
        rw [← he] at h1
        have : encNew.n = 4 := rfl
        omega
      have hq : Quill Z w wr b B p D e := by rw [hB, he]; exact HKr.out.q
      have HQ := Lib.hid hq
      have Hcells := Lib.hid hcells
      have Hia := Lib.hid hia
      have HBe := Lib.hid (And.intro hB he)
      obtain ⟨bs, hbs⟩ : ∃ bs, bs = bytesOf e.n e.v := ⟨_, rfl⟩
      have HBy : Hid (∀ W, Live X w W p D e → Calls Try.prog 16 #[pt p] W fun r W' => ∃ u, r = .returned u ∧ Src W' u (bs.map B8) ∧ Live X w W' p D e ∧ Fr [] W W') := Lib.hid fun W hW => by
        refine (bytes_live W p D e hW (by omega)).mono ?_
        rintro r W' ⟨A, c, rfl, hS, hL, hF⟩
        exact ⟨_, rfl, by rw [hbs]; exact hS, hL, hF⟩
      have HC := Lib.hid (Z.copy wr b B hq.bk)
      clear hcell hcells ha hia hB he hq hbs
      go_wp2_with fail
      refine HC.out.mono ?_
      rintro r1 w3 ⟨c, rfl, hc, hF3, nc⟩
      have hcl := HQ.out.lt
      have hcs : c ∉ b :: p :: D := fun hm => by have := hcl c hm; omega
      have HQ3 := Lib.hid (HQ.out.fr0 hF3); have HC3 := Lib.hid hc; have Hcs := Lib.hid hcs; have HF3 := Lib.hid hF3
      clear hc hF3 nc hcl hcs HC HQ
      go_wp2_with fail
      refine (HBy.out _ HQ3.out.li).mono ?_
      rintro r1 w4 ⟨vb, rfl, hS4, -, hF4⟩
      have hq4 := HQ3.out.fr0 hF4
      obtain ⟨gv, cv0, hvb⟩ := hS4.slice
      have HQ4 := Lib.hid hq4; have HC4 := Lib.hid (Z.fr HC3.out hF4 (by simp)); have HS4 := Lib.hid hS4; have HF4 := Lib.hid (HF3.out.trans hF4 (by simp))
      obtain ⟨k0, k1, k2, k3⟩ := Hcells.out _ hq4.li.fr
      have HP := Lib.hid (hq4.put Hia.out (by omega))
      clear hS4 hF4 hq4 HQ3 HC3 HF3
      subst hvb
      obtain ⟨E0, hE0⟩ : ∃ E0, E0 = errOf a := ⟨_, rfl⟩
      have HE0 := Lib.hid hE0
      clear hE0
      obtain ⟨k, t, n, x⟩ := a
      unfold vAct at HP
      simp only at HP k0 k1 k2 k3
      go_wp2_with fail
      refine HP.out.mono ?_
      rintro r1 w5 ⟨rfl, D', hq5, hf5, hd5, hn5⟩
      rcases errOf_cases (k, t, n, x) with ⟨e0, hl0⟩ | ⟨e1, hnone, hsame⟩
      · rw [e0]
        obtain ⟨f0, f1, f2, f3⟩ := Hcells.out _ hq5.li.fr
        simp only at f0 f1 f2 f3
        have hdn := ownsRow_fr (ownsRow_fr HKr.out.dn HF4.out (by simp)) hf5 HKr.out.sep
        have hsep : ∀ k, u5.ownBlock = some k → k ∉ b :: p :: D' := by
          intro z hz hm
          have hnw := ownsRow_new HKr.out.dn z hz
          rcases List.mem_cons.1 hm with rfl | hm
          · exact HKr.out.sep _ hz (List.mem_cons_self ..)
          · rcases List.mem_cons.1 hm with rfl | hm
            · exact HKr.out.sep _ hz (List.mem_cons_of_mem _ (List.mem_cons_self ..))
            · rcases hd5 z hm with h1 | h1
              · exact HKr.out.sep _ hz (List.mem_cons_of_mem _ (List.mem_cons_of_mem _ h1))
              · have := HF4.out.size; omega
        have HQ5 := Lib.hid hq5; have Hdn := Lib.hid hdn; have Hsep := Lib.hid hsep; have Hl0 := Lib.hid hl0
        clear hq5 hf5 hd5 hn5 hdn hsep hl0 e0 k0 k1 k2 k3 HP
        go_upto_region 12 with fail
        have hal : Fr [] w5 (w5.alloc (.cells #[.int .i64 k, .int .i64 t, .int .i64 n, .int .i64 x] 33)) := (Fr.refl _ _).alloc _
        have hbn := Blk.new w5 33 #[.int .i64 k, .int .i64 t, .int .i64 n, .int .i64 x]
        have hat : ActAt (w5.alloc (.cells #[.int .i64 k, .int .i64 t, .int .i64 n, .int .i64 x] 33)) w5.heap.size 0 (k, t, n, x) := ⟨hbn.cell 0, hbn.cell 1, hbn.cell 2, hbn.cell 3⟩
        have Hal := Lib.hid hal; have Hat := Lib.hid hat
        clear hal hbn hat
        go_wp2_with (at_builtin; refine wp_append_act5 w.heap.size _ _ u5 l (k, t, n, x) w5.heap.size 1 rfl rfl rfl rfl (ownsRow_fr Hdn.out Hal.out (by simp)) Hat.out (by omega) ?_ ?_)
        · have := HQ5.out.li.fr.size
          simp
          omega
        intro vd w6 hR hF hO
        have HBk : Hid (Bk5 Z w w6 b p D' vd (l ++ [(k, t, n, x)])) := by
          have hq6 := HQ5.out.fr0 Hal.out
          have hlt := hq6.lt
          refine Lib.hid ⟨?_, hR, fun z hz hm => ?_, fun y hy => ?_⟩
          · rw [seqB_snoc, seqE_snoc, ← HBe.out.1, ← HBe.out.2]
            refine hq6.frS hF (fun z hz hm => ?_) (fun z hz => ?_)
            · exact Hsep.out z (by simpa using hm) hz
            · exact (ownsRow_new HKr.out.dn z (by simpa using hz)).1
          · rcases hO with hO | hO
            · exact Hsep.out z (hO ▸ hz) hm
            · rw [hO] at hz
              injection hz with hz
              subst hz
              have := hlt _ hm
              omega
          · rcases List.mem_append.1 hy with hy | hy
            · exact HKr.out.good y hy
            · simp at hy
              subst hy
              exact ⟨Hia.out, Hl0.out⟩
        clear hR hF hO f0 f1 f2 f3
        go_wp2_with fail
        exact ⟨⟨i + 1, D', l ++ [(k, t, n, x)], by omega, by omega, by simp; omega, by simp, HBk.out⟩, by simp [intOf]; omega⟩
      · rw [e1]
        have hfn := hn5 hnone
        have hk5 : Bk5 Z w w5.drew b p D u5 l := (HKr.out.fr0 (HF4.out.trans hfn (by simp))).fr0 (Fr.refl [] w5).drew
        have HK5 := Lib.hid hk5
        have HC5 := Lib.hid (Z.fr (Z.fr HC4.out hfn (by simp)) (Fr.refl [] w5).drew (by simp))
        have hs5 : Src w5.drew (.slice gv bs.length cv0) (bs.map B8) := (HS4.out.fr0 hfn).fr0 (Fr.refl [] w5).drew
        have sv := run_cv hs5
        have HS5 := Lib.hid hs5
        have hqe : Quill Z w w5.drew b B p D e := by
          have := hk5.q
          rw [← HBe.out.1, ← HBe.out.2] at this
          exact this
        have HQ5 := Lib.hid hqe
        have HSm := Lib.hid (fun W (h1 : Z.Bo W c B) (h2 : Z.Bo W b B) => Z.same W c B b B h1 h2)
        rw [sameB_refl] at HSm
        clear hq5 hf5 hd5 hn5 hfn hk5 hs5 hqe e1 hnone hsame k0 k1 k2 k3 HP HC4 HS4
        go_upto_region 13 with fail
        refine wp_region_held_drew (S := fun W => (cv (.slice gv bs.length cv0)).run Try.prog W = .ok (.string (strOf bs)) W) (by kernel_rfl) ?_ (fun hHeld => ?_)
        · assumption
        refine wpAnyH_pick 0 (v := ?_) rfl (by kernel_rfl) (by kernel_rfl) (by kernel_rfl) (fun _ _ _ h => h) (by assumption) (by rfl) ?_ ?_
        rotate_left
        · (intro w hSw; (try dsimp only at hSw); go_simp) <;> (with_reducible rfl)
        (try simp only [Act.put, List.setIfInBounds_toArray, List.set_cons_zero, List.set_cons_succ])
        refine wpAnyH_pick 1 (v := ?_) rfl (by kernel_rfl) (by kernel_rfl) (by kernel_rfl) (fun _ _ _ h => h) (by assumption) (by rfl) ?_ ?_
        rotate_left
        · (intro w hSw; (try dsimp only at hSw); go_simp) <;> (with_reducible rfl)
        (try simp only [Act.put, List.setIfInBounds_toArray, List.set_cons_zero, List.set_cons_succ])
        refine wpAnyH_ready (rs := [2]) (by kernel_rfl) (by simp) ?_
        refine AllReadyH_pick rfl (fun K hK => ?_) (AllReadyH.nil)
        go_simp
        refine (HSm.out _ HC5.out HQ5.out.bk).mono ?_
        rintro r1 wS ⟨rfl, fS⟩
        have sv2 := run_cv (HS5.out.fr0 fS)
        have HS6 := Lib.hid (HS5.out.fr0 fS); have HK6 := Lib.hid (HK5.out.fr0 fS); have HQ6 := Lib.hid (HQ5.out.fr0 fS)
        clear fS
        go_wp2_with fail
        refine hK.out _ _ ?_ (fun hHeld => ?_)
        · assumption
        clear hK K
        (try simp only [Act.put, List.setIfInBounds_toArray, List.set_cons_zero, List.set_cons_succ])
        refine wpAnyH_pick 3 (v := ?_) rfl (by kernel_rfl) (by kernel_rfl) (by kernel_rfl) (fun _ _ _ h => h) (by assumption) (by rfl) ?_ ?_
        rotate_left
        · (intro w hSw; (try dsimp only at hSw); go_simp) <;> (with_reducible rfl)
        (try simp only [Act.put, List.setIfInBounds_toArray, List.set_cons_zero, List.set_cons_succ])
        refine wpAnyH_pick 4 (v := ?_) rfl (by kernel_rfl) (by kernel_rfl) (by kernel_rfl) (fun _ _ _ h => h) (by assumption) (by rfl) ?_ ?_
        rotate_left
        · (intro w hSw; (try dsimp only at hSw); go_simp) <;> (with_reducible rfl)
        (try simp only [Act.put, List.setIfInBounds_toArray, List.set_cons_zero, List.set_cons_succ])
        refine wpAnyH_pick 5 (v := ?_) rfl (by kernel_rfl) (by kernel_rfl) (by kernel_rfl) (fun _ _ _ h => h) (by assumption) (by rfl) ?_ ?_
        rotate_left
        · (intro w hSw; (try dsimp only at hSw); go_simp) <;> (with_reducible rfl)
        (try simp only [Act.put, List.setIfInBounds_toArray, List.set_cons_zero, List.set_cons_succ])
        refine wpAnyH_pick 8 (v := ?_) rfl (by kernel_rfl) (by kernel_rfl) (by kernel_rfl) (fun _ _ _ h => h) (by assumption) (by rfl) ?_ ?_
        rotate_left
        · (intro w hSw; (try dsimp only at hSw); go_simp) <;> (with_reducible rfl)
        (try simp only [Act.put, List.setIfInBounds_toArray, List.set_cons_zero, List.set_cons_succ])
        refine wpAnyH_pick 9 (v := ?_) rfl (by kernel_rfl) (by kernel_rfl) (by kernel_rfl) (fun _ _ _ h => h) (by assumption) (by rfl) ?_ ?_
        rotate_left
        · (intro w hSw; (try dsimp only at hSw); go_simp) <;> (with_reducible rfl)
        (try simp only [Act.put, List.setIfInBounds_toArray, List.set_cons_zero, List.set_cons_succ])
        refine wpAnyH_ready (rs := [6]) (by kernel_rfl) (by simp) ?_
        refine AllReadyH_pick rfl (fun K hK => ?_) (AllReadyH.nil)
        go_simp
        refine (HBy.out _ HQ6.out.li).mono ?_
        rintro r1 wB ⟨vB, rfl, hSB, -, hFB⟩
        have sv3 := run_cv (HS6.out.fr0 hFB)
        have sB := run_cv hSB
        have HK7 := Lib.hid (HK6.out.fr0 hFB)
        clear hFB
        go_wp2_with fail
        refine hK.out _ _ ?_ (fun hHeld => ?_)
        · assumption
        clear hK K
        (try simp only [Act.put, List.setIfInBounds_toArray, List.set_cons_zero, List.set_cons_succ])
        refine wpAnyH_add (fun W => (cv vB).run Try.prog W = .ok (.string (strOf bs)) W) _ _ _ _ ?_
        have hHeld2 := And.intro hHeld sB
        refine wpAnyH_pick 7 (v := ?_) rfl (by kernel_rfl) (by kernel_rfl) (by kernel_rfl) (fun _ _ _ h => h) (by assumption) (by rfl) ?_ ?_
        rotate_left
        · (intro w hSw; (try dsimp only at hSw); go_simp) <;> (with_reducible rfl)
        (try simp only [Act.put, List.setIfInBounds_toArray, List.set_cons_zero, List.set_cons_succ])
        refine wpAnyH_pick 10 (v := ?_) rfl (by kernel_rfl) (by kernel_rfl) (by kernel_rfl) (fun _ _ _ h => h) (by assumption) (by rfl) ?_ ?_
        rotate_left
        · (intro w hSw; (try dsimp only at hSw); go_simp) <;> (with_reducible rfl)
        (try simp only [Act.put, List.setIfInBounds_toArray, List.set_cons_zero, List.set_cons_succ])
        refine wpAnyH_pick 11 (v := ?_) rfl (by kernel_rfl) (by kernel_rfl) (by kernel_rfl) (fun _ _ _ h => h) (by assumption) (by rfl) ?_ ?_
        rotate_left
        · (intro w hSw; (try dsimp only at hSw); go_simp) <;> (with_reducible rfl)
        (try simp only [Act.put, List.setIfInBounds_toArray, List.set_cons_zero, List.set_cons_succ])
        refine wpAnyH_done (by kernel_rfl) ?_ _
        skip
        go_wp2_with fail
        exact ⟨⟨i + 1, D, l, by omega, by omega, by omega, by simp, HK7.out⟩, by simp [intOf]; omega⟩
    · have hex : (decide (i < len) = false) ∨ (decide (i < len) = true ∧ decide ((i : Int) < 100) = false) := by
        by_cases h1 : i < len
        · exact .inr ⟨by simpa using h1, by simp; omega⟩
        · exact .inl (by simpa using h1)
      obtain ⟨A0, c0, hu5⟩ := HKr.out.len
      obtain ⟨Bf, hBf⟩ : ∃ Bf, Bf = seqB newBook l := ⟨_, rfl⟩
      obtain ⟨f, hf⟩ : ∃ f, f = seqE newBook encNew l := ⟨_, rfl⟩
      have hrg := seqT_right l newBook_fine
      have hfp := hf
      rw [seqE_puts] at hfp
      have hn4 : 4 ≤ f.n := by rw [hfp]; exact (puts_within encNew_ok hrg).1
      have hn5 : f.n ≤ 5000 := by
        have h1 := seqE_n l newBook encNew
        rw [← hf] at h1
        have : encNew.n = 4 := rfl
        omega
      have hq : Quill Z w wr b Bf p D f := by rw [hBf, hf]; exact HKr.out.q
      have hdc : DoneCells5 wr A0 l := done5_cells (hu5 ▸ HKr.out.dn)
      have hAlt : ∀ ad, A0 = some ad → ad.block < wr.heap.size := fun ad had => (ownsRow_new HKr.out.dn ad.block (by rw [hu5, had]; rfl)).2
      obtain ⟨bs, hbs⟩ : ∃ bs, bs = bytesOf f.n f.v := ⟨_, rfl⟩
      have hbl : bs.length = f.n := by rw [hbs]; simp
      have hah : Ahd [] bs (decOpen bs) (seqT newBook l) := by
        have := ahd_open hrg []
        rw [← hfp, List.append_nil, ← hbs] at this
        exact this
      have HBy : Hid (∀ W, Live X w W p D f → Calls Try.prog 16 #[pt p] W fun r W' => ∃ A c, r = .returned (.slice A bs.length c) ∧ Src W' (.slice A bs.length c) (bs.map B8) ∧ Live X w W' p D f ∧ Fr [] W W' ∧ ∀ ad, A = some ad → ad.block ∈ D ∨ W.heap.size ≤ ad.block) := Lib.hid fun W hW => by
        have h := bytes_live2 W p D f hW (by omega)
        rw [← hbs, ← hbl] at h
        exact h
      have HQ := Lib.hid hq; have HDc := Lib.hid hdc; have HAlt := Lib.hid hAlt; have Hah := Lib.hid hah; have HBf := Lib.hid hBf; have Hgd := Lib.hid HKr.out.good
      have hb4 : 4 ≤ bs.length := by omega
      have hb5 : bs.length ≤ 5000 := by omega
      have hll : l.length ≤ 100 := by omega
      clear hBf hf hrg hfp hn4 hn5 hq hdc hAlt hbs hbl hah hlt2 hi1 hi2
      obtain ⟨bn, hbn⟩ : ∃ bn, bn = bs.length := ⟨_, rfl⟩
      rw [← hbn] at HBy
      have Hbn := Lib.hid hbn
      clear hbn
      rcases hex with eg1 | ⟨eg1, eg2⟩
      case' inl => go_upto_region 15 with fail
      case' inr => go_upto_region 15 with fail
      all_goals
        go_wp2_with fail
        refine (Z.new wr).mono ?_
        rintro e w3 ⟨c, rfl, hc, hF3, nc⟩
        have hlq := HQ.out.lt
        have hcs : c ∉ b :: p :: D := fun hm => by have := hlq c hm; omega
        have hAc : ∀ ad, A0 = some ad → ad.block ≠ c ∧ ad.block < w3.heap.size := fun ad had => by
          have := HAlt.out ad had
          have := hF3.size
          omega
        have HQ3 := Lib.hid (HQ.out.fr0 hF3); have HC3 := Lib.hid hc; have Hcs := Lib.hid hcs; have HDc3 := Lib.hid (HDc.out.fr hF3 (by simp)); have HAc := Lib.hid hAc
        have Hnc := Lib.hid (Nat.le_trans HQ.out.li.fr.size nc)
        clear hc hF3 nc hlq hcs hAc HQ HDc HAlt HKr
        go_wp2_with fail
        refine (HBy.out _ HQ3.out.li).mono ?_
        rintro e w4 ⟨A4, c4, rfl, hS4, -, hF4, hA4⟩
        have hO := Y.opens w4 A4 c4 bs (by rw [← Hbn.out]; exact hS4) hb4 (by omega)
        rw [← Hbn.out] at hO
        have hlc := Z.lt HC3.out
        have hac : ∀ ad, A4 = some ad → ad.block ≠ c := fun ad had e => by
          rcases hA4 ad had with h | h
          · exact Hcs.out (by rw [← e]; exact List.mem_cons_of_mem _ (List.mem_cons_of_mem _ h))
          · omega
        have HO := Lib.hid hO; have HQ4 := Lib.hid (HQ3.out.fr0 hF4); have HC4 := Lib.hid (Z.fr HC3.out hF4 (by simp)); have HDc4 := Lib.hid (HDc3.out.fr hF4 (by simp)); have Hac := Lib.hid hac
        have HAc4 := Lib.hid (fun ad had => And.intro (HAc.out ad had).1 (Nat.lt_of_lt_of_le (HAc.out ad had).2 hF4.size) : ∀ ad, A0 = some ad → ad.block ≠ c ∧ ad.block < w4.heap.size)
        clear hS4 hF4 hA4 hO hlc hac HBy HQ3 HC3 HDc3 HAc
        go_wp2_with fail
        refine HO.out.mono ?_
        rintro e w5 ⟨y, K, rfl, hY, hF5, hy, hyK, hK⟩
        have hRt : Ret5 Z w w5 b Bf c newBook y K bs (decOpen bs) A0 l := by
          have l1 := Z.lt HC4.out
          have l2 := HQ4.out.lt b (List.mem_cons_self ..)
          have l3 := HQ4.out.li.fr.size
          refine ⟨⟨Z.fr HC4.out hF5 (by simp), hY, HQ4.out.li.fr.trans hF5 (by simp), Hnc.out, by omega, fun hm => ?_, ⟨newBook_fine, (show (16777216 : Nat) ≤ 4294967295 by omega), (show (4294967295 : Nat) ≤ 4294967295 by omega), hb4, ?_⟩, by omega⟩, Z.fr HQ4.out.bk hF5 (by simp), ⟨fun e => Hcs.out (by rw [e]; exact List.mem_cons_self ..), by omega⟩, HDc4.out.fr hF5 (by simp), fun ad had => ⟨(HAc4.out ad had).1, by have := (HAc4.out ad had).2; omega⟩⟩
          · rcases List.mem_cons.1 hm with rfl | hm
            · omega
            · rcases hK c hm with h | ⟨ad, had, h⟩
              · omega
              · exact Hac.out ad had h
          · have h1 := valueOf_lt (bs.take 4)
            have h2 : (bs.take 4).length ≤ 4 := by simp; omega
            have h3 : 256 ^ (bs.take 4).length ≤ 256 ^ 4 := Nat.pow_le_pow_right (by omega) h2
            show valueOf (bs.take 4) < _
            omega
        have HRt := Lib.hid hRt
        clear hRt hY hF5 hy hyK hK HO HQ4 HC4 HDc4 Hac HAc4 Hcs Hnc
        subst hu5
        go_wp2_with fail
        go_loopw [12] (fun s12 wr => ∃ (j : Nat) (B : Chs) (d : Dec), j ≤ l.length ∧ s12 = .int .i64 (j : Int) ∧ Ret5 Z w wr b Bf c B y K bs d A0 l ∧ Beh5 bs d B l j) (fun s12 _ => l.length - (intOf s12).toNat)
        case atStart => exact ⟨0, newBook, decOpen bs, by omega, rfl, HRt.out, rfl, Hah.out⟩
        case round =>
          obtain ⟨j, B, d, hj, rfl, hRt, hBh⟩ := hrel
          have HRr := Lib.hid hRt; have HBh := Lib.hid hBh
          clear hRt hBh HRt
          by_cases hjl : j < l.length
          · have eg3 : decide (j < l.length) = true := by simpa using hjl
            obtain ⟨a, ha⟩ : ∃ x, l[j]? = some x := ⟨_, List.getElem?_eq_getElem hjl⟩
            obtain ⟨hia, hev⟩ := Hgd.out a (List.mem_of_getElem? ha)
            obtain ⟨d', hg, hB'⟩ := beh5_step ha hev HBh.out
            obtain ⟨g0, rfl, k0, k1, k2, k3⟩ := HRr.out.cells j a ha
            have hP := HRr.out.lens.get hia
            rw [hg] at hP
            unfold LensPost at hP
            simp only at hP
            have HP := Lib.hid hP; have HB' := Lib.hid hB'; have Ha := Lib.hid ha
            clear hP hB' ha hg hia hev
            obtain ⟨k, t, n, x⟩ := a
            unfold vAct at HP
            simp only at HP k0 k1 k2 k3
            go_wp2_with fail
            refine HP.out.mono ?_
            rintro r1 w7 ⟨rfl, hL7, hF7⟩
            have hR7 := HRr.out.got hL7 hF7
            obtain ⟨g7, r7, f0, f1, f2, f3⟩ := hR7.cells j _ Ha.out
            have r8 := Option.some.inj r7
            injection r8 with r9
            subst r9
            simp only at f0 f1 f2 f3
            have HR7 := Lib.hid hR7
            have ex : (x != x) = false := by simp
            have hj100 : j ≤ 100 := by omega
            clear hL7 hF7 hR7 k0 k1 k2 k3 HP r7
            go_wp2_with fail
            exact ⟨⟨j + 1, _, d', by omega, by simp, HR7.out, HB'.out⟩, by simp [intOf]; omega⟩
          · have eg3 : decide (j < l.length) = false := by simpa using hjl
            obtain ⟨hBe, hdi, hdr⟩ := beh5_end (by omega) HBh.out
            rw [← HBf.out] at hBe
            have HBe := Lib.hid hBe; have Hdi := Lib.hid (And.intro hdi hdr)
            clear hBe hdi hdr hjl hj
            go_wp2_with fail
            refine (alive5_any Z _).mono ?_
            rintro e w8 ⟨rfl, hF8⟩
            have hR8 := HRr.out.fr0 hF8
            have hE := Y.ends w8 y K bs d hR8.lens.de
            rw [if_pos Hdi.out] at hE
            have HR8 := Lib.hid hR8; have HE := Lib.hid hE
            clear hF8 hR8 hE HRr
            go_wp2_with fail
            refine HE.out.mono ?_
            rintro e w9 ⟨rfl, mm, hm9⟩
            have hF9 : Fr [] w8 w9 := by rw [hm9]; exact (Fr.refl _ _).drewN mm
            have HR9 := Lib.hid (HR8.out.fr0 hF9)
            clear hm9 hF9 HR8 HE
            go_wp2_with fail
            refine (Z.same w9 b Bf c B HR9.out.bk HR9.out.lens.bk).mono ?_
            rintro e w10 ⟨rfl, hF10⟩
            rw [← HBe.out, sameB_refl]
            have HR10 := Lib.hid (HR9.out.fr0 hF10)
            clear hF10 HR9
            go_wp2_with fail
            refine (Z.same w10 c B b Bf HR10.out.lens.bk HR10.out.bk).mono ?_
            rintro e w11 ⟨rfl, hF11⟩
            rw [← HBe.out, sameB_refl]
            have HF11 := Lib.hid (HR10.out.lens.fr.trans hF11 (by simp))
            clear hF11 HR10
            go_wp2_with fail
            go_ret
            exact ⟨rfl, HF11.out⟩
end Go.Proofs.Ytfjlepnodmeaaaa

/-
  The statement BookBack out of the contracts.
-/
namespace Go.Proofs.Ytfjlepnodmeaaaa
open Go.ChangeShapes Go.WideShapes Go.ChangeAt Go.RowKit

set_option maxRecDepth 100000 in
theorem back5_lifted {X : EncSpec} {Y : DecSpec} (Z : BookSpec X Y) (os : Os) (started : os.Started) (H : Type) (enc : TypeId × Value → H) :
    ReturnsInHanded {} Try.checked os 5 .any (Rows.bookBackSpec.pre6 enc Try.prog Try.f5 Rows.bookBackRow.domain false) (Rows.bookBackSpec.post enc Try.prog Try.f5 false true false false) := by
  refine law_lift (C := Try.checked) own_knob started (by kernel_rfl) Try.func5
    (ChangeSpec.witness6 (enc := enc) (C := Try.checked) false ⟨#[], #[.slice none 0 0], []⟩ 8 (by kernel_rfl) (by kernel_rfl) (by kernel_rfl) (by kernel_rfl))
    laid_out rfl rfl Try.underlying4 (of_decide_eq_true (by kernel_rfl)) ?_
  intro W base args ds before hval0 hA0 hlt
  have hval : ∀ (j : Nat) t v, Try.f5.params[j]? = some t → args[j]? = some v → Value.okWide Try.prog W .any base t v := hval0
  have hA : DataW.TrodAll enc Try.prog W 0 (fun _ => true) true Try.f5.params.toList args.toList ds before := hA0
  rw [Try.params5] at hA hval
  obtain ⟨v0, d0, rfl, rfl, fuel0, h0⟩ := trodAll_one hA
  obtain ⟨A0, l0, c0, rfl⟩ := okWide_slice Try.underlying22 (hval 0 _ _ rfl rfl)
  obtain ⟨S0, n0, k0, acts0, e0, ha0, hm0⟩ := open_acts5 (v := .slice A0 l0 c0) h0
  rw [e0]
  simp only [maxLen] at hm0
  exact ⟨rfl, (back5_law Z S0 n0 k0 acts0 W ha0 (by omega)).mono fun e W' ⟨he, hf⟩ => ⟨he, hf.below (by simp) (Nat.le_refl _)⟩⟩

theorem back5_holds_of {X : EncSpec} {Y : DecSpec} (Z : BookSpec X Y) : Rows.BookBackSaid :=
  OpenClaim.holds_of_wide 5 Try.f5 rfl rfl rfl rfl rfl rfl rfl ⟨rfl, rfl, rfl, rfl, rfl⟩ rfl rfl rfl rfl rfl (by kernel_rfl) Try.func5 (by kernel_rfl)
    (of_decide_eq_true (by kernel_rfl)) (by unfold Func.isWrapper; first | (rw [if_pos (by decide +kernel)]; kernel_rfl) | (rw [if_neg (by decide +kernel)]; exact ⟨rfl, rfl⟩))
    (fun os started H enc _ => back5_lifted Z os started H enc)
end Go.Proofs.Ytfjlepnodmeaaaa

/-
  The law BookBack (there and back) answers true whatever its input, and leaves its arguments as they were; no condition.
-/
namespace Go.Proofs.Ytfjlepnodmeaaaa
open Go.RowKit

theorem back5_holds : Rows.BookBackSaid := back5_holds_of bookI
#print axioms back5_holds
end Go.Proofs.Ytfjlepnodmeaaaa
