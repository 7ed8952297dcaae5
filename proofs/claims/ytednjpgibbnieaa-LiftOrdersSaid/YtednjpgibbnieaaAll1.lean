/-
  What several laws' proofs lean on, part 1; each part says its conditions below.
-/
import Derived.WalkKit
import Derived.Deep.Draws
import Derived.Lib.Hide
import Derived.Laws.CopyOwn
import Derived.Test.YtednjpgibbnieaaRows
import Derived.Handy
import Derived.StillTailTactics
import Derived.Deep.QuietTactic
import Derived.BigQuiet
import Derived.Deep.DeepCutAuto
import Derived.ProofKit
import Derived.Deep.Slices
import Derived.Deep.Fields
import Derived.Deep.RegionHeld3
/-
  Memory: what a call leaves alone. No program text here.
-/
namespace Go.Proofs.Ytednjpgibbnieaa
open Go.RowKit

/-- w' is w but for the blocks S and new blocks. -/
structure Fr (S : List Nat) (w w' : World) : Prop where
  os : w'.os = w.os
  tape : w'.tape = w.tape
  output : w'.output = w.output
  size : w.heap.size ≤ w'.heap.size
  block : ∀ k, k < w.heap.size → k ∉ S → w'.heap[k]? = w.heap[k]?

/-- A byte in a cell. -/
def B8 (x : UInt8) : Value := .int .u8 (x.toNat : Int)

/-- Block g is just the cells cs, of which none is frozen. -/
structure Blk (w : World) (g : Nat) (t : TypeId) (cs : Array Value) : Prop where
  here : w.heap[g]? = some (.cells cs t (0, 0))

section
variable {S S' : List Nat} {w w' a b c : World}
theorem Fr.refl (S : List Nat) (w : World) : Fr S w w := ⟨rfl, rfl, rfl, Nat.le_refl _, fun _ _ _ => rfl⟩
theorem Fr.trans (h : Fr S a b) (k : Fr S' b c) (hs : ∀ x ∈ S', x ∈ S ∨ a.heap.size ≤ x) : Fr S a c :=
  ⟨k.os.trans h.os, k.tape.trans h.tape, k.output.trans h.output, Nat.le_trans h.size k.size, fun i hi hn =>
    (k.block i (Nat.lt_of_lt_of_le hi h.size) (fun hm => by rcases hs i hm with h1 | h1; exact hn h1; omega)).trans (h.block i hi hn)⟩
theorem Fr.mono (h : Fr S a b) (hs : ∀ x ∈ S, x ∈ S' ∨ a.heap.size ≤ x) : Fr S' a b := (Fr.refl S' a).trans h hs
theorem Fr.drew (h : Fr S a w) : Fr S a w.drew := ⟨h.os, h.tape, h.output, h.size, h.block⟩
theorem Fr.drewN (h : Fr S a w) (n : Nat) : Fr S a (w.drewN n) := ⟨h.os, h.tape, h.output, h.size, h.block⟩
theorem Fr.alloc (h : Fr S a w) (o : Obj) : Fr S a (w.alloc o) :=
  h.trans (S' := []) ⟨rfl, rfl, rfl, by simp, fun k hk _ => Below.heap_alloc _ _ _ hk⟩ (by simp)
theorem Fr.setCell (h : Fr S a w) {p : Addr} (hp : p.block ∈ S ∨ a.heap.size ≤ p.block) (u : Value) : Fr S a (w.setCell p u) :=
  h.trans (S' := [p.block]) ⟨rfl, rfl, rfl, by simp [World.setCell], fun k _ hn => Below.heap_setCell _ _ _ _ (by simpa using hn)⟩ (by simpa using hp)
theorem Fr.grown (h : Fr S a w) {row : Option Nat} (hg : w.grownBy w' row) (hr : ∀ k, row = some k → k ∈ S ∨ a.heap.size ≤ k) : Fr S a w' :=
  h.trans (S' := row.toList) ⟨hg.os, hg.tape, hg.output, hg.size, fun k hk hn => hg.block k hk (by rintro rfl; simp at hn)⟩ (by
    intro x hx; cases row with
    | none => simp at hx
    | some k => simp at hx; subst hx; exact hr _ rfl)
theorem Fr.of_below (h : Below w.heap.size w w') (S : List Nat) : Fr S w w' := ⟨h.os, h.tape, h.output, h.size, fun k hk _ => h.block k hk⟩
theorem Fr.below {B : Nat} (h : Fr S w w') (hS : ∀ x ∈ S, B ≤ x) (hB : B ≤ w.heap.size) : Below B w w' :=
  ⟨h.os, h.tape, h.output, h.size, fun k hk => h.block k (by omega) (fun hm => by have := hS k hm; omega)⟩
theorem Fr.cell (h : Fr S w w') {p : Addr} (hp : p.block < w.heap.size) (hn : p.block ∉ S) : w'.cell? p = w.cell? p := World.cell?_of_block (h.block p.block hp hn)
theorem Fr.frozen (h : Fr S w w') {p : Addr} (hp : p.block < w.heap.size) (hn : p.block ∉ S) : w'.frozen? p = w.frozen? p := World.frozen?_of_block (h.block p.block hp hn)
end

section
variable {w w' : World} {g : Nat} {t : TypeId} {cs : Array Value}
theorem Blk.lt (h : Blk w g t cs) : g < w.heap.size := (Array.getElem?_eq_some_iff.1 h.here).1
theorem Blk.move (h : Blk w g t cs) (e : w'.heap[g]? = w.heap[g]?) : Blk w' g t cs := ⟨by rw [e, h.here]⟩
theorem Blk.cell (h : Blk w g t cs) (i : Nat) : w.cell? ⟨g, i, none⟩ = cs[i]? := by simp [World.cell?, h.here]
theorem Blk.frozen (h : Blk w g t cs) (i : Nat) : w.frozen? ⟨g, i, none⟩ = false := by simp [World.frozen?, h.here]
theorem Blk.new (w : World) (t : TypeId) (cs : Array Value) : Blk (w.alloc (.cells cs t)) w.heap.size t cs := ⟨heap_alloc_new w _⟩
theorem Blk.drew (h : Blk w g t cs) : Blk w.drew g t cs := ⟨h.here⟩
theorem Blk.drewN (h : Blk w g t cs) (n : Nat) : Blk (w.drewN n) g t cs := ⟨h.here⟩
theorem Blk.alloc (h : Blk w g t cs) (o : Obj) : Blk (w.alloc o) g t cs := h.move (Below.heap_alloc w o g h.lt)
theorem Blk.far (h : Blk w g t cs) {p : Addr} (hp : g ≠ p.block) (u : Value) : Blk (w.setCell p u) g t cs := h.move (Below.heap_setCell w p u g hp)
theorem Blk.set_ (h : Blk w g t cs) (i : Nat) (u : Value) : Blk (w.setCell ⟨g, i, none⟩ u) g t (cs.setIfInBounds i u) :=
  ⟨by simp only [World.setCell, Array.getElem?_modify, h.here]; rfl⟩
theorem Blk.fr {S : List Nat} (h : Blk w g t cs) (hf : Fr S w w') (hg : g ∉ S) : Blk w' g t cs := h.move (hf.block g h.lt hg)
end

/-- The slice value v holds the cells xs, in a row of its own (or it is nil). -/
def Own (w : World) (e : TypeId) (v : Value) (xs : List Value) : Prop := w.ownsRow 0 e 1 v xs.length xs

section
variable {w w' : World} {e : TypeId} {v : Value} {xs : List Value} {S : List Nat}
theorem Own.lt (h : Own w e v xs) : ∀ k, v.ownBlock = some k → k < w.heap.size := fun k hk => (World.ownsRow.lt h k hk).2
theorem Own.fr (h : Own w e v xs) (hf : Fr S w w') (hn : ∀ k, v.ownBlock = some k → k ∉ S) : Own w' e v xs := by
  refine ⟨h.1, ?_⟩
  rcases h.2 with h0 | ⟨g, cap, cur, rfl, hb, hgg, rest⟩
  · exact .inl h0
  · refine .inr ⟨g, cap, cur, rfl, hb, ?_, rest⟩
    rw [hf.block g (Array.getElem?_eq_some_iff.1 hgg).1 (hn g rfl)]
    exact hgg
theorem Own.form (h : Own w e v xs) : (v = .slice none 0 0 ∧ xs = []) ∨ ∃ g cap cur, v = .slice (some ⟨g, 0, none⟩) xs.length cap ∧ Blk w g e cur ∧ xs.length ≤ cap ∧ cap ≤ maxLen ∧ cur.size = cap ∧ cur.toList.take xs.length = xs := by
  rcases h.2 with ⟨h1, h2⟩ | ⟨g, cap, cur, h1, _, h3, h4, h5, h6, h7⟩
  · exact .inl ⟨h1, by simpa using h2⟩
  · exact .inr ⟨g, cap, cur, h1, ⟨h3⟩, h4, h5, by simpa using h6, by simpa using h7⟩
theorem Own.nil (w : World) (e : TypeId) : Own w e (.slice none 0 0) [] := World.ownsRow_nil w 0 e 1
theorem Own.drew (h : Own w e v xs) : Own w.drew e v xs := h
theorem Own.drewN (h : Own w e v xs) (n : Nat) : Own (w.drewN n) e v xs := h
theorem Own.alloc (h : Own w e v xs) (o : Obj) : Own (w.alloc o) e v xs := World.ownsRow.alloc h o
theorem Own.len_le (h : Own w e v xs) : xs.length ≤ maxLen := by
  rcases h.form with ⟨_, rfl⟩ | ⟨g, cap, cur, _, _, h1, h2, _⟩
  · simp
  · omega
theorem Own.slice {A : Option Addr} {n c : Nat} (h : Own w e (.slice A n c) xs) : n = xs.length := by
  rcases h.form with ⟨h1, rfl⟩ | ⟨g, cap, cur, h1, _⟩
  · injection h1
  · injection h1
theorem Own.cell {A : Option Addr} {n c : Nat} (h : Own w e (.slice A n c) xs) {j : Nat} (hj : j < xs.length) : ∃ g, A = some ⟨g, 0, none⟩ ∧ w.cell? ⟨g, j, none⟩ = xs[j]? ∧ w.frozen? ⟨g, j, none⟩ = false ∧ n = xs.length ∧ n ≤ c := by
  rcases h.form with ⟨h1, rfl⟩ | ⟨g, cap, cur, h1, hb, hc, _, hs, ht⟩
  · simp at hj
  · injection h1 with e1 e2 e3
    subst e1 e2 e3
    refine ⟨g, rfl, ?_, hb.frozen j, rfl, hc⟩
    rw [hb.cell, ← ht, List.getElem?_take, if_pos (by omega)]
    simp
theorem Own.at_ {g n c : Nat} (h : Own w e (.slice (some ⟨g, 0, none⟩) n c) xs) {j : Nat} (hj : j < xs.length) : w.cell? ⟨g, j, none⟩ = xs[j]? ∧ w.frozen? ⟨g, j, none⟩ = false ∧ g < w.heap.size := by
  obtain ⟨g', h1, h2, h3, -, -⟩ := h.cell hj
  injection h1 with h1
  injection h1 with h1
  subst h1
  exact ⟨h2, h3, h.lt g rfl⟩
theorem Own.last {i : Nat} (h : Own w e v xs) (hl : xs.length = i + 1) : ∃ g cap, v = .slice (some ⟨g, 0, none⟩) (i + 1) cap ∧ i + 1 ≤ cap ∧ w.cell? ⟨g, i, none⟩ = xs[i]? ∧ w.frozen? ⟨g, i, none⟩ = false ∧ g < w.heap.size := by
  rcases h.form with ⟨h1, rfl⟩ | ⟨g, cap, cur, rfl, hb, hc, _, hs, ht⟩
  · simp at hl
  · refine ⟨g, cap, by rw [hl], by omega, ?_, hb.frozen i, hb.lt⟩
    rw [hb.cell, ← ht, List.getElem?_take, if_pos (by omega)]
    simp
theorem Own.set {g n c : Nat} (h : Own w e (.slice (some ⟨g, 0, none⟩) n c) xs) (j : Nat) (u : Value) : Own (w.setCell ⟨g, j, none⟩ u) e (.slice (some ⟨g, 0, none⟩) n c) (xs.set j u) := by
  have hn := h.slice
  subst hn
  have := (World.ownsRow.stored h j u).1
  simpa [Own] using this
end


/-- The slice value src reads as the cells xs (nil let in). -/
def Src (w : World) (src : Value) (xs : List Value) : Prop :=
  (src = .slice none 0 0 ∧ xs = []) ∨ ∃ ad c, src = .slice (some ad) xs.length c ∧ xs.length ≤ c ∧ ∀ j u, xs[j]? = some u → w.cell? (ad.add j) = some u

/-- What was written is one slice's own row, or there is a new one. -/
def Own1 (v v' : Value) (w w' : World) : Prop := Fr v.ownBlock.toList w w' ∧ (v'.ownBlock = v.ownBlock ∨ ∃ g, v'.ownBlock = some g ∧ w.heap.size ≤ g)

theorem not_own {v : Value} {p : Nat} (h : v.ownBlock ≠ some p) : p ∉ v.ownBlock.toList := by
  cases hv : v.ownBlock with
  | none => simp
  | some k => rw [hv] at h; simp at h ⊢; omega

theorem add0 (g j : Nat) : (⟨g, 0, none⟩ : Addr).add j = ⟨g, j, none⟩ := by unfold Addr.add; split <;> simp_all

theorem Own.src {w : World} {e : TypeId} {v : Value} {xs : List Value} (h : Own w e v xs) : Src w v xs := by
  rcases h.form with h0 | ⟨g, cap, cur, h1, hb, h2, h3, h4, h5⟩
  · exact .inl h0
  · refine .inr ⟨⟨g, 0, none⟩, cap, h1, h2, fun j u hu => ?_⟩
    rw [add0, hb.cell]
    rw [← h5, List.getElem?_take] at hu
    split at hu
    · simpa using hu
    · cases hu

theorem addr_block (a : Addr) (n : Nat) : (a.add n).block = a.block := by by_cases h : n = 0 <;> simp [Addr.add, h]

theorem Src.fr {w w' : World} {S : List Nat} {src : Value} {xs : List Value} (h : Src w src xs) (hf : Fr S w w') (hS : ∀ k, src.ownBlock = some k → k ∉ S) : Src w' src xs := by
  rcases h with h | ⟨ad, c, rfl, hle, hc⟩
  · exact .inl h
  · refine .inr ⟨ad, c, rfl, hle, fun j u hu => ?_⟩
    have h1 := hc j u hu
    have h2 := World.block_lt_of_cell? w _ h1
    rw [hf.cell h2 (by rw [addr_block]; exact hS _ rfl)]
    exact h1
theorem Src.fr0 {w w' : World} {src : Value} {xs : List Value} (h : Src w src xs) (hf : Fr [] w w') : Src w' src xs := h.fr hf (by simp)

theorem addr_add_add (a : Addr) (m n : Nat) : (a.add m).add n = a.add (m + n) := by
  rcases Nat.eq_zero_or_pos m with rfl | hm
  · simp [Addr.add]
  · rcases Nat.eq_zero_or_pos n with rfl | hn
    · simp [Addr.add]
    · have h1 : m ≠ 0 := by omega
      have h2 : n ≠ 0 := by omega
      simp [Addr.add, h1, h2, Nat.add_assoc]

theorem Src.drop {w : World} {A : Option Addr} {n c k : Nat} {xs : List Value} (h : Src w (.slice A n c) xs) (hk : k ≤ n) :
    Src w (.slice (if c = k then A else A.map (·.add k)) (n - k) (c - k)) (xs.drop k) := by
  rcases h with ⟨h1, rfl⟩ | ⟨ad, c', h1, hle, hc⟩
  · injection h1 with e1 e2 e3
    subst e1 e2 e3
    obtain rfl : k = 0 := by omega
    exact .inl ⟨by simp, by simp⟩
  · injection h1 with e1 e2 e3
    subst e1 e2 e3
    by_cases hk2 : c = k
    · rw [if_pos hk2]
      refine .inr ⟨ad, c - k, by simp, by simp; omega, fun j u hu => ?_⟩
      rw [List.drop_of_length_le (by omega)] at hu
      cases hu
    · rw [if_neg hk2]
      refine .inr ⟨ad.add k, c - k, by simp, by simp; omega, fun j u hu => ?_⟩
      rw [List.getElem?_drop] at hu
      rw [addr_add_add]
      exact hc (k + j) u hu

theorem Src.drewN {w : World} {src : Value} {xs : List Value} (h : Src w src xs) (n : Nat) : Src (w.drewN n) src xs := h
theorem Src.drew {w : World} {src : Value} {xs : List Value} (h : Src w src xs) : Src w.drew src xs := h

theorem Src.one {w : World} {g : Nat} {u : Value} (h : w.cell? ⟨g, 0, none⟩ = some u) : Src w (.slice (some ⟨g, 0, none⟩) 1 1) [u] := by
  refine .inr ⟨⟨g, 0, none⟩, 1, rfl, Nat.le_refl _, fun j u' hu => ?_⟩
  cases j with
  | zero => rw [add0]; simp at hu; subst hu; exact h
  | succ j => simp at hu

theorem run_append_mine {P : Program} (w : World) (t ty e : TypeId) (i : TypeInfo) (z : Value) (bytes : Nat) (ht : P.underlying t = some (.slice e)) (hi : P.info? e = some i) (hz : i.zero = some z)
    (hsize : i.size = 1) (hby : i.bytes = bytes) (hzs : z.cells.size = 1) (v : Value) (xs : List Value) (hown : Own w e v xs) (src : Value) (news : List Value) (hs : Src w src news) (h1 : ∀ u ∈ news, u.oneCell' = true)
    (h63 : xs.length + news.length ≤ maxLen) (hbytes : (xs.length + news.length) * bytes ≤ 140737488355328) :
    ∃ v' w', (Builtin.append_ #[t, t] ty #[v, src]).run P w = .ok v' w' ∧ Own w' e v' (xs ++ news) ∧ Own1 v v' w w' := by
  rcases hs with ⟨rfl, rfl⟩ | ⟨ad, c, rfl, -, hn⟩
  · exact ⟨v, w, run_append_owned_none w 0 t ty e i 1 ht hi v _ xs hown, by simpa using hown, Fr.refl _ _, .inl rfl⟩
  · obtain ⟨v', w', hr, h2, h3, h4⟩ := run_append_own (P := P) w 0 t ty e i z 1 bytes ht hi hz hsize hby hzs (by omega) v xs.length xs hown ad news.length c news (by simp) hn h1 h63 hbytes (by omega)
    have hO : Own w' e v' (xs ++ news) := by unfold Own; simpa using h2
    have hF : Fr v.ownBlock.toList w w' := (Fr.refl _ _).grown h3 (fun k hk => .inl (by simp [hk]))
    refine ⟨v', w', hr, hO, hF, ?_⟩
    rcases hown.form with ⟨rfl, rfl⟩ | ⟨g, cap, cur, rfl, hb, hc1, hc2, hc3, hc4⟩
    · obtain ⟨v2, w2, hr2, h22, -, -⟩ := run_append_own (P := P) w w.heap.size t ty e i z 1 bytes ht hi hz hsize hby hzs (by omega) (.slice none 0 0) 0 [] (World.ownsRow_nil w _ e 1) ad news.length c news (by simp) hn h1 (by simpa using h63) (by simpa using hbytes) (Nat.le_refl _)
      rw [hr] at hr2
      injection hr2 with e1 e2
      subst e1 e2
      cases hv : v'.ownBlock with
      | none => exact .inl rfl
      | some k => exact .inr ⟨k, rfl, (h22.lt k hv).1⟩
    · by_cases hroom : xs.length + news.length ≤ cap
      · have hr2 := run_append_room (P := P) w t ty e i ht hi g xs.length cap cur hb.here ad news.length c news (by simp [hsize]) hn h1 hroom (by simp [hsize]; omega)
        rw [hr] at hr2
        injection hr2 with e1 e2
        subst e1
        exact .inl rfl
      · have hcell : ∀ j u, xs[j]? = some u → w.cell? ((⟨g, 0, none⟩ : Addr).add j) = some u := World.ownsRow.cells hown (g := g) rfl
        have hr2 := run_append_grow (P := P) w t ty e i z ht hi hz ⟨g, 0, none⟩ xs.length cap xs (by simp [hsize]) hcell ad news.length c news (by simp [hsize]) hn (by omega) (by simp only [maxLen] at h63; omega) (growslice_fits (by omega) (by rw [hby]; exact hbytes))
        rw [hr] at hr2
        injection hr2 with e1 e2
        subst e1
        exact .inr ⟨_, rfl, Nat.le_refl _⟩

theorem wpList_append_mine {P : Program} {w : World} {ops : Array Oper} {rest : List Oper} {o : Oper} {a : Act} {Q : Exit → Act → World → Prop} (s x : Operand) (t e : TypeId) (i : TypeInfo) (z : Value) (bytes : Nat)
    (hgd : o.guard = none) (ho : o.op = .call { callee := .builtin .append, args := #[s, x], argTypes := #[t, t] })
    (ht : P.underlying t = some (.slice e)) (hi : P.info? e = some i) (hz : i.zero = some z)
    (hsize : i.size = 1) (hby : i.bytes = bytes) (hzs : z.cells.size = 1) (v : Value) (xs : List Value) (src : Value) (news : List Value) (hv : a.eval s = v) (hsv : a.eval x = src)
    (hown : Own w e v xs) (hs : Src w src news) (h1 : ∀ u ∈ news, u.oneCell' = true)
    (h63 : xs.length + news.length ≤ maxLen) (hbytes : (xs.length + news.length) * bytes ≤ 140737488355328)
    (h : ∀ v' w', Own w' e v' (xs ++ news) → Own1 v v' w w' → wpList P ops Q rest (a.put o.dst v') w') : wpList P ops Q (o :: rest) a w := by
  refine wpList_plain hgd fun _ hK => ?_
  obtain ⟨v', w', hr, h2, h3⟩ := run_append_mine (P := P) w t o.type e i z bytes ht hi hz hsize hby hzs v xs hown src news hs h1 h63 hbytes
  unfold Oper.wp execOp
  simp only [ho, resolve, invoke, builtin, Sem.run_bind, Sem.run_pure, Result.andThen_ok, List.map_toArray, List.map_cons, List.map_nil, hv, hsv, hr]
  exact hK _ _ (h v' w' h2 h3)

theorem wp_append_mine {P : Program} {w : World} {o : Oper} {a : Act} {K : Act → World → Prop} {Q : Exit → Act → World → Prop} (s x : Operand) (t e : TypeId) (i : TypeInfo) (z : Value) (bytes : Nat)
    (ho : o.op = .call { callee := .builtin .append, args := #[s, x], argTypes := #[t, t] })
    (ht : P.underlying t = some (.slice e)) (hi : P.info? e = some i) (hz : i.zero = some z)
    (hsize : i.size = 1) (hby : i.bytes = bytes) (hzs : z.cells.size = 1) (v : Value) (xs : List Value) (src : Value) (news : List Value) (hv : a.eval s = v) (hsv : a.eval x = src)
    (hown : Own w e v xs) (hs : Src w src news) (h1 : ∀ u ∈ news, u.oneCell' = true)
    (h63 : xs.length + news.length ≤ maxLen) (hbytes : (xs.length + news.length) * bytes ≤ 140737488355328)
    (h : ∀ A c w', Own w' e (.slice A (xs.length + news.length) c) (xs ++ news) → Own1 v (.slice A (xs.length + news.length) c) w w' → K (a.put o.dst (.slice A (xs.length + news.length) c)) w') : o.wp P a w K Q := by
  obtain ⟨v', w', hr, h2, h3⟩ := run_append_mine (P := P) w t o.type e i z bytes ht hi hz hsize hby hzs v xs hown src news hs h1 h63 hbytes
  obtain ⟨A, c, rfl⟩ : ∃ A c, v' = .slice A (xs.length + news.length) c := by
    rcases h2.form with ⟨rfl, h0⟩ | ⟨g, cap, cur, rfl, -⟩
    · exact ⟨_, _, by have := congrArg List.length h0; simp only [List.length_append, List.length_nil] at this; rw [this]⟩
    · exact ⟨_, _, by rw [List.length_append]⟩
  unfold Oper.wp execOp
  simp only [ho, resolve, invoke, builtin, Sem.run_bind, Sem.run_pure, Result.andThen_ok, List.map_toArray, List.map_cons, List.map_nil, hv, hsv, hr]
  exact h A c w' h2 h3

theorem own_of_setRow {w : World} {e : TypeId} {g cap : Nat} {cur : Array Value} {n : Nat} (hb : Blk w g e cur) (hn : n ≤ cap) (hm : cap ≤ maxLen) (zs : List Value) (hz : zs.length = cap) :
    Own (w.setRow g zs.toArray) e (.slice (some ⟨g, 0, none⟩) n cap) (zs.take n) := by
  have hl : (zs.take n).length = n := by simp; omega
  refine ⟨by simp, .inr ⟨g, cap, zs.toArray, by rw [hl], Nat.zero_le _, setRow_heap w g cur _ e _ hb.here, by rw [hl]; exact hn, hm, by simp [hz], ?_⟩⟩
  rw [hl]; simp

theorem wpList_copy_mine {P : Program} {w : World} {ops : Array Oper} {rest : List Oper} {o : Oper} {a : Act} {Q : Exit → Act → World → Prop} (d s : Operand) (t t' e : TypeId)
    (hgd : o.guard = none) (ho : o.op = .call { callee := .builtin .copy, args := #[d, s], argTypes := #[t, t'] })
    (ht : P.underlying t = some (.slice e)) (hsz : (P.info? e).map (·.size) = some 1) (v src : Value) (ys xs : List Value) (hv : a.eval d = v) (hsv : a.eval s = src)
    (hown : Own w e v ys) (hs : Src w src xs) (h1 : ∀ u ∈ xs, u.oneCell' = true)
    (h : ∀ w', Own w' e v (xs.take ys.length ++ ys.drop xs.length) → Fr v.ownBlock.toList w w' → wpList P ops Q rest (a.put o.dst (goInt (min xs.length ys.length : Nat))) w') : wpList P ops Q (o :: rest) a w := by
  by_cases h0 : xs.length = 0 ∨ ys.length = 0
  · have hres : xs.take ys.length ++ ys.drop xs.length = ys := by
      rcases h0 with h0 | h0
      · simp [List.eq_nil_of_length_eq_zero h0]
      · simp [List.eq_nil_of_length_eq_zero h0]
    have hmin : (min xs.length ys.length : Nat) = 0 := by omega
    have hk := h w (by rw [hres]; exact hown) (Fr.refl _ _)
    rw [hmin] at hk
    obtain ⟨dp, dc, rfl⟩ : ∃ dp dc, v = .slice dp ys.length dc := by
      rcases hown.form with ⟨rfl, rfl⟩ | ⟨g, cap, cur, rfl, -⟩
      · exact ⟨_, _, rfl⟩
      · exact ⟨_, _, rfl⟩
    obtain ⟨sp, sc, rfl⟩ : ∃ sp sc, src = .slice sp xs.length sc := by
      rcases hs with ⟨rfl, rfl⟩ | ⟨ad, c, rfl, -⟩
      · exact ⟨_, _, rfl⟩
      · exact ⟨_, _, rfl⟩
    exact wpList_copy_nothing hgd d s t t' ho e ht hsz dp sp _ dc _ sc hv hsv hmin hk
  · rcases hown.form with ⟨rfl, rfl⟩ | ⟨g, cap, cur, rfl, hb, hc, hm, hcs, hct⟩
    · simp at h0
    rcases hs with ⟨rfl, rfl⟩ | ⟨ad, c, rfl, -, hcell⟩
    · simp at h0
    have hl : (xs.take ys.length).length = Nat.min xs.length ys.length := by rw [List.length_take, Nat.min_comm]
    refine wpList_copy_own hgd d s t t' ho e ht hsz g 0 _ _ ad _ _ hv hsv cur e hb.here (xs.take ys.length) hl ?_ ?_ ?_ ?_
    · intro j u hu
      refine hcell j u ?_
      rw [List.getElem?_take] at hu
      split at hu
      · exact hu
      · cases hu
    · simp; omega
    · exact fun u hu => h1 u (List.mem_of_mem_take hu)
    · have hO := own_of_setRow (n := ys.length) hb hc hm (cur.toList.take 0 ++ (xs.take ys.length ++ cur.toList.drop (0 + (xs.take ys.length).length))) (by simp; omega)
      have e1 : (cur.toList.take 0 ++ (xs.take ys.length ++ cur.toList.drop (0 + (xs.take ys.length).length))).take ys.length = xs.take ys.length ++ ys.drop xs.length := by
        simp only [List.take_zero, List.nil_append, Nat.zero_add, List.length_take]
        apply List.ext_getElem?
        intro j
        have hy : ∀ j, j < ys.length → cur[j]? = ys[j]? := fun j hj => by rw [← hct, List.getElem?_take, if_pos (by simpa using hj)]; simp
        simp only [List.getElem?_take, List.getElem?_append, List.length_take, List.getElem?_drop]
        by_cases hj : j < ys.length
        · by_cases hj2 : j < xs.length
          · have h3 : j < min ys.length xs.length := by omega
            simp [hj, h3]
          · have : ¬ j < min ys.length xs.length := by omega
            simp only [hj, if_true, this, if_false]
            rw [show xs.length + (j - min ys.length xs.length) = j by omega, show min ys.length xs.length + (j - min ys.length xs.length) = j by omega]
            simpa using hy j hj
        · simp only [hj, if_false]
          rw [if_neg (by omega), List.getElem?_eq_none (by omega)]
      rw [e1] at hO
      have := h _ hO ((Fr.refl _ _).grown (row := some g) ⟨rfl, rfl, rfl, by simp, fun k _ hk => setRow_other w g k _ (fun e => hk (by simp [e]))⟩ (fun k hk => .inl (by simpa [Value.ownBlock] using hk.symm)))
      have e2 : ((xs.take ys.length).length : Int) = ((min xs.length ys.length : Nat) : Int) := by simp [Nat.min_comm]
      rw [e2]
      exact this

theorem wpList_make_mine {P : Program} {w : World} {ops : Array Oper} {rest : List Oper} {o : Oper} {a : Act} {Q : Exit → Act → World → Prop} (l c : Operand) (t e : TypeId) (i : TypeInfo) (z : Value) (bytes : Nat) (kl kc : IntKind) (n : Nat)
    (hgd : o.guard = none) (hop : o.op = Op.makeSlice t l c) (h1 : P.underlying t = some (.slice e)) (h2 : P.info? e = some i) (h3 : i.zero = some z) (h4 : i.size = 1) (h5 : i.bytes = bytes) (h6 : z.cells = #[z])
    (hl : a.eval l = .int kl (n : Int)) (hc : a.eval c = .int kc (n : Int)) (b2 : bytes * n ≤ 281474976710656) (b3 : n ≤ maxLen)
    (h : ∀ w', Own w' e (.slice (some ⟨w.heap.size, 0, none⟩) n n) (List.replicate n z) → Fr [] w w' → w.heap.size < w'.heap.size → wpList P ops Q rest (a.put o.dst (.slice (some ⟨w.heap.size, 0, none⟩) n n)) w') : wpList P ops Q (o :: rest) a w := by
  refine wpList_make_full w hgd l c t hop 0 e i z 1 h1 h2 h3 h4 kl kc n n n hl hc rfl rfl (by rw [h5]; exact b2) b3 (Nat.zero_le _) fun w' hO hG => ?_
  have hO' : Own w' e (.slice (some ⟨w.heap.size, 0, none⟩) n n) (List.replicate n z) := by
    rw [h6, Nat.mul_one, toList_madeCells_one] at hO
    unfold Own
    rw [List.length_replicate]
    exact hO
  exact h w' hO' ((Fr.refl _ _).grown hG (fun k hk => by cases hk)) (hO'.lt _ rfl)

theorem Own.lit (w : World) (e : TypeId) (cs : Array Value) (n : Nat) (hn : cs.size = n) (hm : n ≤ maxLen) : Own (w.alloc (.cells cs e)) e (.slice (some ⟨w.heap.size, 0, none⟩) n n) cs.toList := by
  have h := World.ownsRow_lit (base := 0) (e := e) (size := 1) w cs n (Nat.zero_le _) hm (by omega)
  unfold Own
  rw [Array.length_toList, hn]
  exact h
end Go.Proofs.Ytednjpgibbnieaa

/-
  Contracts of the small functions of package bits (isWidth, toWhole, ones); conditions: the numbers lie in the ranges that are named.
-/
namespace Go.Proofs.Ytednjpgibbnieaa
open Go.RowKit

theorem ones_num (k : Nat) (h : k ≤ 63) : IntKind.u64.wrap (IntKind.u64.wrap (2 ^ k) - 1) = ((2 ^ k - 1 : Nat) : Int) := by
  have h1 : 2 ^ k ≤ 2 ^ 63 := Nat.pow_le_pow_right (by omega) h
  have h2 : 1 ≤ 2 ^ k := Nat.one_le_two_pow
  have e : ((2 : Int) ^ k) = ((2 ^ k : Nat) : Int) := by simp
  rw [e, IntKind.wrap_u64, IntKind.wrap_u64]
  omega

end Go.Proofs.Ytednjpgibbnieaa

/-
  Plain facts on bits, bytes and how bits are packed into bytes. No program text here.
-/
namespace Go.Proofs.Ytednjpgibbnieaa

/-- The lowest n bits of v, the highest one first. -/
def digits (v : Nat) : Nat → List Bool
  | 0 => []
  | n + 1 => v.testBit n :: digits v n

def number (l : List Bool) : Nat := l.foldl (fun a b => 2 * a + b.toNat) 0

/-- Bit j of bytes, counted from the first byte's highest one on. -/
def bitAt (bs : List UInt8) (j : Nat) : Bool := (bs.getD (j / 8) 0).toNat.testBit (7 - j % 8)

/-- bs are the bits l, filled up with 0 to whole bytes. -/
def PackOf (bs : List UInt8) (l : List Bool) : Prop := bs.length = (l.length + 7) / 8 ∧ ∀ j, bitAt bs j = l.getD j false

@[simp] theorem digits_length (v n : Nat) : (digits v n).length = n := by
  induction n with
  | zero => rfl
  | succ n ih => simp [digits, ih]

theorem digits_getD (v : Nat) : ∀ n j, (digits v n).getD j false = (decide (j < n) && v.testBit (n - 1 - j))
  | 0, j => by simp [digits]
  | n + 1, 0 => by simp [digits]
  | n + 1, j + 1 => by
    have := digits_getD v n j
    simp only [digits, List.getD_cons_succ, this]
    have h : n - 1 - j = n + 1 - 1 - (j + 1) := by omega
    rw [h]; simp

theorem ext_getD {l m : List Bool} (hl : l.length = m.length) (h : ∀ j, l.getD j false = m.getD j false) : l = m := by
  apply List.ext_getElem hl
  intro i h1 h2
  have := h i
  simpa [List.getD_eq_getElem?_getD, h1, h2] using this

theorem getD_append' (l m : List Bool) (j : Nat) : (l ++ m).getD j false = if j < l.length then l.getD j false else m.getD (j - l.length) false := by
  simp only [List.getD_eq_getElem?_getD, List.getElem?_append]
  split <;> rfl

theorem digits_add (v n k : Nat) : digits v (n + k) = digits (v >>> n) k ++ digits v n := by
  apply ext_getD (by simp; omega)
  intro j
  rw [getD_append', digits_length, digits_getD, digits_getD, digits_getD]
  by_cases h : j < k
  · simp only [h, if_true, Nat.testBit_shiftRight]
    rw [show n + (k - 1 - j) = n + k - 1 - j by omega]
    simp [show j < n + k by omega]
  · simp only [h, if_false]
    rw [show n - 1 - (j - k) = n + k - 1 - j by omega]
    congr 1
    apply decide_eq_decide.2; omega

theorem digits_more (a n m k : Nat) (h : m + k ≤ n) : digits (a >>> m) (n - m) = digits (a >>> (m + k)) (n - (m + k)) ++ digits (a >>> m) k := by
  rw [show n - m = k + (n - (m + k)) by omega, digits_add, Nat.shiftRight_add]

theorem number_append (l : List Bool) (b : Bool) : number (l ++ [b]) = 2 * number l + b.toNat := by
  simp [number]

theorem foldl_number (l : List Bool) : ∀ a, l.foldl (fun a b => 2 * a + b.toNat) a = a * 2 ^ l.length + number l := by
  induction l with
  | nil => intro a; simp [number]
  | cons b l ih =>
    intro a
    simp only [List.foldl_cons, number, List.length_cons]
    rw [ih, ih (2 * 0 + b.toNat), Nat.pow_succ]
    simp only [Nat.add_mul, Nat.mul_zero, Nat.zero_add]
    rw [show 2 * a * 2 ^ l.length = a * (2 ^ l.length * 2) by rw [Nat.mul_comm 2 a, Nat.mul_assoc, Nat.mul_comm 2]]
    omega

theorem number_cons (b : Bool) (l : List Bool) : number (b :: l) = b.toNat * 2 ^ l.length + number l := by
  have := foldl_number l b.toNat
  simpa [number] using this

theorem number_lt (l : List Bool) : number l < 2 ^ l.length := by
  induction l with
  | nil => simp [number]
  | cons b l ih =>
    rw [number_cons, List.length_cons, Nat.pow_succ]
    cases b <;> simp <;> omega

theorem number_digits (v n : Nat) : number (digits v n) = v % 2 ^ n := by
  induction n with
  | zero => simp [digits, number, Nat.mod_one]
  | succ n ih =>
    rw [digits, number_cons, digits_length, ih, Nat.pow_succ, Nat.mod_mul, Nat.testBit_eq_decide_div_mod_eq]
    have : v / 2 ^ n % 2 < 2 := Nat.mod_lt _ (by omega)
    rcases (show v / 2 ^ n % 2 = 0 ∨ v / 2 ^ n % 2 = 1 by omega) with h | h <;> simp [h] <;> omega

theorem number_digits_lt {v n : Nat} (h : v < 2 ^ n) : number (digits v n) = v := by
  rw [number_digits, Nat.mod_eq_of_lt h]

theorem digits_number (l : List Bool) : digits (number l) l.length = l := by
  induction l with
  | nil => rfl
  | cons b l ih =>
    rw [List.length_cons, digits]
    have h1 := number_lt l
    congr 1
    · rw [number_cons, Nat.testBit_eq_decide_div_mod_eq, Nat.mul_comm, Nat.mul_add_div (by omega), Nat.div_eq_of_lt h1]
      cases b <;> simp
    · refine Eq.trans ?_ ih
      apply ext_getD (by simp)
      intro j
      rw [digits_getD, digits_getD, number_cons]
      by_cases hj : j < l.length
      · congr 1
        rw [Nat.mul_comm, Nat.testBit_two_pow_mul_add _ h1]
        simp [show l.length - 1 - j < l.length by omega]
      · simp [hj]

theorem number_shift (l : List Bool) (v n : Nat) : number (l ++ digits v n) = number l * 2 ^ n + v % 2 ^ n := by
  rw [← number_digits]
  have := foldl_number (digits v n) (number l)
  simpa [number, List.foldl_append] using this

theorem number_app (l m : List Bool) : number (l ++ m) = number l * 2 ^ m.length + number m := by
  have := foldl_number m (number l)
  simpa [number, List.foldl_append] using this

theorem PackOf.nil : PackOf [] [] := ⟨rfl, fun j => by simp [bitAt]⟩

theorem u8_ext {a b : UInt8} (h : ∀ p, p < 8 → a.toNat.testBit p = b.toNat.testBit p) : a = b := by
  apply UInt8.toNat_inj.1
  apply Nat.eq_of_testBit_eq
  intro i
  by_cases hi : i < 8
  · exact h i hi
  · have h1 : a.toNat < 2 ^ i := Nat.lt_of_lt_of_le (UInt8.toNat_lt a) (Nat.pow_le_pow_right (by omega) (by omega) : 2 ^ 8 ≤ 2 ^ i)
    have h2 : b.toNat < 2 ^ i := Nat.lt_of_lt_of_le (UInt8.toNat_lt b) (Nat.pow_le_pow_right (by omega) (by omega) : 2 ^ 8 ≤ 2 ^ i)
    rw [Nat.testBit_lt_two_pow h1, Nat.testBit_lt_two_pow h2]

theorem bits_ext {a b : List UInt8} (hl : a.length = b.length) (h : ∀ j, bitAt a j = bitAt b j) : a = b := by
  apply List.ext_getElem hl
  intro i h1 h2
  apply u8_ext
  intro p hp
  have := h (8 * i + (7 - p))
  simp only [bitAt] at this
  rw [show (8 * i + (7 - p)) / 8 = i by omega, show 7 - (8 * i + (7 - p)) % 8 = p by omega] at this
  simpa [List.getD_eq_getElem?_getD, h1, h2] using this

theorem PackOf.unique {a b : List UInt8} {l : List Bool} (ha : PackOf a l) (hb : PackOf b l) : a = b :=
  bits_ext (ha.1.trans hb.1.symm) fun j => (ha.2 j).trans (hb.2 j).symm

theorem bitAt_set (bs : List UInt8) (i : Nat) (x : UInt8) (j : Nat) (hi : i < bs.length) :
    bitAt (bs.set i x) j = if j / 8 = i then x.toNat.testBit (7 - j % 8) else bitAt bs j := by
  simp only [bitAt, List.getD_eq_getElem?_getD, List.getElem?_set]
  by_cases h : j / 8 = i
  · simp [h, hi]
  · simp [h, Ne.symm h]

theorem bitAt_push0 (bs : List UInt8) (j : Nat) : bitAt (bs ++ [0]) j = bitAt bs j := by
  simp only [bitAt, List.getD_eq_getElem?_getD, List.getElem?_append]
  split
  · rfl
  · rename_i h
    rw [List.getElem?_eq_none (l := bs) (by omega)]
    rcases (show j / 8 - bs.length = 0 ∨ 0 < j / 8 - bs.length by omega) with h0 | h0
    · simp [h0]
    · rw [List.getElem?_eq_none (by simp only [List.length_singleton]; omega)]

/-- One round of Put: the last byte takes k bits more. -/
theorem PackOf.round {bs : List UInt8} {l : List Bool} (h : ∀ j, bitAt bs j = l.getD j false) (u k i : Nat) (x : UInt8) (hi : i = l.length / 8) (hib : i < bs.length) (hk : k ≤ 8 - l.length % 8)
    (hx : x.toNat = (bs.getD i 0).toNat ||| ((u % 2 ^ k) <<< (8 - l.length % 8 - k))) (hlen : bs.length = (l.length + k + 7) / 8) :
    PackOf (bs.set i x) (l ++ digits u k) := by
  refine ⟨by simp [hlen], fun j => ?_⟩
  rw [bitAt_set bs i x j hib, getD_append', digits_getD]
  have hj := h j
  by_cases hd : j / 8 = i
  · rw [if_pos hd, hx, Nat.testBit_or, Nat.testBit_shiftLeft, Nat.testBit_mod_two_pow]
    have hb : (bs.getD i 0).toNat.testBit (7 - j % 8) = bitAt bs j := by simp [bitAt, hd]
    rw [hb, hj]
    by_cases hc : j < l.length
    · rw [if_pos hc]
      have : ¬ (7 - j % 8 - (8 - l.length % 8 - k) < k) := by omega
      simp [this]
    · rw [if_neg hc]
      have h0 : l.getD j false = false := by simp [List.getD_eq_getElem?_getD, List.getElem?_eq_none (by omega : l.length ≤ j)]
      rw [h0, Bool.false_or]
      by_cases hjk : j - l.length < k
      · have a1 : 7 - j % 8 ≥ 8 - l.length % 8 - k := by omega
        have a2 : 7 - j % 8 - (8 - l.length % 8 - k) < k := by omega
        have a3 : 7 - j % 8 - (8 - l.length % 8 - k) = k - 1 - (j - l.length) := by omega
        rw [a3] at a2 ⊢
        simp [a1, a2, hjk]
      · have a1 : ¬ (7 - j % 8 ≥ 8 - l.length % 8 - k) ∨ l.length % 8 + k = 8 ∧ False := by left; omega
        rcases a1 with a1 | ⟨_, a1⟩
        · simp [hjk]
          intro h; omega
        · exact a1.elim
  · rw [if_neg hd, hj]
    by_cases hc : j < l.length
    · rw [if_pos hc]
    · rw [if_neg hc]
      have h0 : l.getD j false = false := by simp [List.getD_eq_getElem?_getD, List.getElem?_eq_none (by omega : l.length ≤ j)]
      rw [h0]
      have : ¬ j - l.length < k := by omega
      simp [this]

theorem PackOf.push0 {bs : List UInt8} {l : List Bool} (h : PackOf bs l) (j : Nat) : bitAt (bs ++ [0]) j = l.getD j false := by
  rw [bitAt_push0, h.2]

/-- Align: the bits 0 more. -/
theorem PackOf.align {bs : List UInt8} {l : List Bool} (h : PackOf bs l) : PackOf bs (l ++ List.replicate ((8 - l.length % 8) % 8) false) := by
  refine ⟨by rw [h.1]; simp; omega, fun j => ?_⟩
  rw [h.2, getD_append']
  split
  · rfl
  · rename_i hc
    have h0 : l.getD j false = false := by simp [List.getD_eq_getElem?_getD, List.getElem?_eq_none (by omega : l.length ≤ j)]
    rw [h0]
    simp only [List.getD_eq_getElem?_getD, List.getElem?_replicate]
    split <;> rfl

/-- The bits of bytes. -/
def rowOf : List UInt8 → List Bool
  | [] => []
  | b :: r => digits b.toNat 8 ++ rowOf r

@[simp] theorem rowOf_length (bs : List UInt8) : (rowOf bs).length = 8 * bs.length := by
  induction bs with
  | nil => rfl
  | cons b r ih => simp [rowOf, ih]; omega

theorem rowOf_append (a b : List UInt8) : rowOf (a ++ b) = rowOf a ++ rowOf b := by
  induction a with
  | nil => rfl
  | cons x r ih => simp [rowOf, ih]

theorem rowOf_getD (bs : List UInt8) (j : Nat) : (rowOf bs).getD j false = bitAt bs j := by
  induction bs generalizing j with
  | nil => simp [rowOf, bitAt]
  | cons b r ih =>
    rw [rowOf, getD_append', digits_length, digits_getD]
    by_cases h : j < 8
    · rw [if_pos h]
      simp [bitAt, h, show j / 8 = 0 by omega, show j % 8 = j by omega]
    · rw [if_neg h, ih]
      simp only [bitAt]
      rw [show j / 8 = (j - 8) / 8 + 1 by omega, show j % 8 = (j - 8) % 8 by omega, List.getD_cons_succ]

theorem PackOf.row (bs : List UInt8) : PackOf bs (rowOf bs) := ⟨by simp; omega, fun j => (rowOf_getD bs j).symm⟩

theorem PackOf.drop {bs : List UInt8} {l : List Bool} (h : PackOf bs l) (k : Nat) : PackOf (bs.drop k) (l.drop (8 * k)) := by
  refine ⟨by simp [h.1]; omega, fun j => ?_⟩
  have := h.2 (8 * k + j)
  simp only [bitAt, List.getD_eq_getElem?_getD, List.getElem?_drop] at this ⊢
  rw [← this, show (8 * k + j) / 8 = k + j / 8 by omega, show (8 * k + j) % 8 = j % 8 by omega]

/-- The first byte of packed bits. -/
theorem PackOf.cons {bs : List UInt8} {l : List Bool} (x : UInt8) (hl : l ≠ []) (h : PackOf bs (l.drop 8)) (hx : ∀ p, p < 8 → x.toNat.testBit (7 - p) = l.getD p false) : PackOf (x :: bs) l := by
  have : 0 < l.length := List.length_pos_iff.2 hl
  refine ⟨by simp [h.1]; omega, fun j => ?_⟩
  by_cases hj : j < 8
  · rw [bitAt, show j / 8 = 0 by omega, show j % 8 = j by omega]
    exact hx j hj
  · have := h.2 (j - 8)
    simp only [bitAt, List.getD_eq_getElem?_getD, List.getElem?_drop] at this ⊢
    rw [show j / 8 = (j - 8) / 8 + 1 by omega, show j % 8 = (j - 8) % 8 by omega, List.getElem?_cons_succ, this, show 8 + (j - 8) = j by omega]


theorem number_row (bs : List UInt8) (at_ k : Nat) (hb : at_ / 8 < bs.length) (hk : k ≤ 8 - at_ % 8) :
    ((rowOf bs).drop at_).take k = digits ((bs.getD (at_ / 8) 0).toNat >>> (8 - at_ % 8 - k)) k := by
  have hl : (((rowOf bs).drop at_).take k).length = k := by simp; omega
  apply ext_getD (by simp [hl])
  intro j
  rw [digits_getD]
  by_cases hj : j < k
  · have h1 := rowOf_getD bs (at_ + j)
    simp only [List.getD_eq_getElem?_getD, List.getElem?_take, List.getElem?_drop, if_pos hj] at h1 ⊢
    rw [h1, bitAt, Nat.testBit_shiftRight, show (at_ + j) / 8 = at_ / 8 by omega, show 7 - (at_ + j) % 8 = 8 - at_ % 8 - k + (k - 1 - j) by omega]
    simp [hj, List.getD_eq_getElem?_getD]
  · rw [List.getD_eq_getElem?_getD, List.getElem?_eq_none (by omega)]
    simp [hj]

theorem take_add' {α : Type} (l : List α) (a k : Nat) : l.take (a + k) = l.take a ++ (l.drop a).take k := by
  rw [List.take_add]

theorem number_zero_iff (l : List Bool) : number l = 0 ↔ ∀ b ∈ l, b = false := by
  induction l with
  | nil => simp [number]
  | cons b l ih =>
    rw [number_cons]
    cases b with
    | false => simp [ih]
    | true => simp

theorem testBit_number (l : List Bool) (j : Nat) (hj : j < l.length) : (number l).testBit (l.length - 1 - j) = l.getD j false := by
  conv => rhs; rw [← digits_number l]
  rw [digits_getD]
  simp [hj]

/-- The t-th eight bits, filled up. -/
def eight (l : List Bool) (t : Nat) : List Bool := (List.range 8).map fun k => l.getD (8 * t + k) false

@[simp] theorem eight_length (l : List Bool) (t : Nat) : (eight l t).length = 8 := by simp [eight]

theorem eight_getD (l : List Bool) (t k : Nat) (hk : k < 8) : (eight l t).getD k false = l.getD (8 * t + k) false := by
  simp [eight, List.getD_eq_getElem?_getD, hk]

theorem eight_lt (l : List Bool) (t : Nat) : number (eight l t) < 256 := by
  have := number_lt (eight l t)
  simpa using this

theorem bitAt_push (bs : List UInt8) (l : List Bool) (h : ∀ j, j < 8 * bs.length → bitAt bs j = l.getD j false) (j : Nat) (hj : j < 8 * (bs.length + 1)) :
    bitAt (bs ++ [UInt8.ofNat (number (eight l bs.length))]) j = l.getD j false := by
  by_cases h8 : j < 8 * bs.length
  · rw [← h j h8]
    simp only [bitAt, List.getD_eq_getElem?_getD, List.getElem?_append]
    rw [if_pos (by omega)]
  · have e : j / 8 = bs.length := by omega
    have hx : (UInt8.ofNat (number (eight l bs.length))).toNat = number (eight l bs.length) := by
      simp only [UInt8.toNat_ofNat']; exact Nat.mod_eq_of_lt (eight_lt l _)
    simp only [bitAt, List.getD_eq_getElem?_getD, List.getElem?_append, e, Nat.lt_irrefl, if_false, Nat.sub_self, List.getElem?_cons_zero, Option.getD_some]
    rw [hx]
    have := testBit_number (eight l bs.length) (j % 8) (by simp; omega)
    rw [eight_length, show 8 - 1 - j % 8 = 7 - j % 8 by omega, eight_getD l _ _ (by omega), show 8 * bs.length + j % 8 = j by omega] at this
    rw [this, List.getD_eq_getElem?_getD]

theorem PackOf.of_eight {bs : List UInt8} {l : List Bool} (hl : bs.length = (l.length + 7) / 8) (h : ∀ j, j < 8 * bs.length → bitAt bs j = l.getD j false) : PackOf bs l := by
  refine ⟨hl, fun j => ?_⟩
  by_cases hj : j < 8 * bs.length
  · exact h j hj
  · rw [bitAt, List.getD_eq_getElem?_getD, List.getElem?_eq_none (by omega), List.getD_eq_getElem?_getD, List.getElem?_eq_none (by omega)]
    simp

theorem number_take_succ (l : List Bool) (k : Nat) (h : k < l.length) : number (l.take (k + 1)) = 2 * number (l.take k) + (l.getD k false).toNat := by
  rw [List.take_add_one, List.getElem?_eq_getElem h, List.getD_eq_getElem?_getD, List.getElem?_eq_getElem h]
  exact number_append _ _
end Go.Proofs.Ytednjpgibbnieaa

/-
  Contracts of bits.New, (*Writer).Len and (*Writer).Put: the writer that the pointer names has the bits L, and then L and the new ones; condition: L is no longer than 100000000000 bits.
-/
namespace Go.Proofs.Ytednjpgibbnieaa
open Go.RowKit

theorem shr_ne (a n : Nat) (h : 2 ^ n ≤ a) : ((a : Int) / 2 ^ n != 0) = true := by
  have h1 : 0 < a / 2 ^ n := Nat.div_pos h (Nat.two_pow_pos n)
  have e : (a : Int) / 2 ^ n = ((a / 2 ^ n : Nat) : Int) := by simp
  rw [e, bne_iff_ne]
  omega
theorem shr_eq (a n : Nat) (h : a < 2 ^ n) : ((a : Int) / 2 ^ n != 0) = false := by
  have e : (a : Int) / 2 ^ n = ((a / 2 ^ n : Nat) : Int) := by simp
  rw [e, Nat.div_eq_of_lt h]
  rfl

theorem and_ones (a m k fk : Nat) (ha : a < 18446744073709551616) (hk : fk + k ≤ 8) :
    ∃ z : Nat, z < 256 ∧ bits BinOp.and IntKind.u64 ((a : Int) / 2 ^ m) ((2 ^ k - 1 : Nat) : Int) = (z : Int) ∧ z = (a >>> m) % 2 ^ k ∧ z <<< fk < 256 := by
  have e : (a : Int) / 2 ^ m = ((a / 2 ^ m : Nat) : Int) := by simp
  have h0 : a / 2 ^ m ≤ a := Nat.div_le_self _ _
  have h1 : 2 ^ k ≤ 2 ^ 8 := Nat.pow_le_pow_right (by omega) (by omega)
  have h2 : (a / 2 ^ m) % 2 ^ k < 2 ^ k := Nat.mod_lt _ (Nat.two_pow_pos k)
  refine ⟨(a / 2 ^ m) % 2 ^ k, by omega, ?_, by rw [Nat.shiftRight_eq_div_pow], ?_⟩
  · rw [e, u64_and_nat _ _ (by omega) (by omega), Nat.and_two_pow_sub_one_eq_mod]
  · rw [Nat.shiftLeft_eq]
    have h3 : (a / 2 ^ m) % 2 ^ k * 2 ^ fk < 2 ^ k * 2 ^ fk := Nat.mul_lt_mul_of_pos_right h2 (Nat.two_pow_pos fk)
    have h4 : 2 ^ k * 2 ^ fk ≤ 2 ^ 8 := by rw [← Nat.pow_add]; exact Nat.pow_le_pow_right (by omega) (by omega)
    omega

theorem or_u8 (y z fk : Nat) (hy : y < 256) (hz : z <<< fk < 256) :
    bits BinOp.or IntKind.u8 (y : Int) ((z : Int) * 2 ^ fk % 256) = ((y ||| z <<< fk : Nat) : Int) ∧ (UInt8.ofNat (y ||| z <<< fk)).toNat = y ||| z <<< fk := by
  have h1 : y ||| z <<< fk < 2 ^ 8 := Nat.or_lt_two_pow (by omega) (by omega)
  have e : (z : Int) * 2 ^ fk % 256 = ((z <<< fk : Nat) : Int) := by
    have : ((z <<< fk : Nat) : Int) = (z : Int) * 2 ^ fk := by rw [Nat.shiftLeft_eq]; simp
    rw [← this]; exact Int.emod_eq_of_lt (Int.natCast_nonneg _) (Int.ofNat_lt.2 hz)
  refine ⟨by rw [e, u8_or_nat _ _ hy hz], ?_⟩
  simp only [UInt8.toNat_ofNat']
  exact Nat.mod_eq_of_lt h1

/-- What a call on the writer p, whose bytes lay at v, may have written. -/
def WFr (p : Nat) (v v' : Value) (w w' : World) : Prop := Fr (p :: v.ownBlock.toList) w w' ∧ (v'.ownBlock = v.ownBlock ∨ ∃ g, v'.ownBlock = some g ∧ w.heap.size ≤ g)

theorem WFr.app {p : Nat} {v v1 v2 : Value} {w0 w w3 : World} {o : Obj} (h : WFr p v v1 w0 w) (hG : Own1 v1 v2 (w.alloc o) w3) (u : Value) : WFr p v v2 w0 (w3.setCell ⟨p, 0, none⟩ u) := by
  obtain ⟨hf, hv⟩ := h
  obtain ⟨gf, gv⟩ := hG
  have hs := hf.size
  refine ⟨((hf.alloc o).trans gf ?_).setCell (.inl (by simp)) u, ?_⟩
  · intro x hx
    rcases hv with e | ⟨g, e, hg⟩
    · rw [e] at hx; exact .inl (List.mem_cons_of_mem _ hx)
    · rw [e] at hx; simp at hx; subst hx; exact .inr hg
  · rcases gv with e | ⟨g, e, hg⟩
    · rw [e]; exact hv
    · exact .inr ⟨g, e, by simp at hg; omega⟩

theorem info_u8 : (Try.prog.info? 5).map (fun i => (i.zero, i.size, i.bytes)) = some (some (.int .u8 0), 1, 1) := by kernel_rfl

end Go.Proofs.Ytednjpgibbnieaa

/-
  Contracts of copied, (*Writer).Bytes and (*Writer).Align; conditions: the lengths are bounded as named.
-/
namespace Go.Proofs.Ytednjpgibbnieaa
open Go.RowKit

theorem B8_one (xs : List UInt8) : ∀ u ∈ xs.map B8, u.oneCell' = true := by
  intro u hu
  obtain ⟨b, _, rfl⟩ := List.mem_map.1 hu
  rfl

/-- A new row that holds the bytes xs. -/
def NewBytes (w : World) (xs : List UInt8) (e : Ending) (w' : World) : Prop :=
  ∃ c, e = .returned (.slice (some ⟨w.heap.size, 0, none⟩) xs.length c) ∧ Own w' 5 (.slice (some ⟨w.heap.size, 0, none⟩) xs.length c) (xs.map B8) ∧ Fr [] w w'

end Go.Proofs.Ytednjpgibbnieaa

/-
  From a contract of a law (it answers true, and nothing that was there has turned) to its row. No program text here.
-/
namespace Go.Proofs.Ytednjpgibbnieaa
open Go.ChangeShapes Go.WideShapes Go.ChangeAt Go.RowKit

section
variable {H : Type} {enc : TypeId × Value → H} {P : Program}

/-- Every argument reads behind the call as it did. -/
theorem args_stay (hl : laidOutB P = true) {W W' : World} (hb : Below W.heap.size W W') (sp : Nat → Bool) :
    ∀ (ts : List TypeId) (vs : List Value) (ds : List (DataW H)) (ps : List MemPlace), (∀ t ∈ ts, P.readableRec t = true ∧ t < P.types.size) →
      DataW.TrodAll enc P W 0 (fun _ => true) true ts vs ds ps → (∀ x ∈ ps, x.block < W.heap.size) → (∀ x ∈ ps, sp x.block = true) → DataW.TrodAll enc P W' 0 sp true ts vs ds ps := by
  intro ts
  induction ts with
  | nil =>
    intro vs ds ps _ h _ _
    obtain ⟨rfl, rfl, rfl⟩ := trodAll_nil h
    exact rfl
  | cons t ts ih =>
    intro vs ds ps ht h hlt hsp
    obtain ⟨v, vs', d, ds', p, q, rfl, rfl, rfl, h1, h2⟩ := trodAll_cons h
    have ⟨r1, r2⟩ := ht t (List.mem_cons_self ..)
    refine ⟨p, q, ?_, (ih vs' ds' q (fun t' h' => ht t' (List.mem_cons_of_mem _ h')) h2 (fun x hx => hlt x (List.mem_append_right _ hx)) (fun x hx => hsp x (List.mem_append_right _ hx))), rfl⟩
    exact WideElems.Trod_stays hl r1 r2 h1 (fun x hx => hb.same (hlt x (List.mem_append_left _ hx))) (fun x hx => hsp x (List.mem_append_left _ hx))

/-- What the row asks behind a law's call. -/
theorem law_post (hl : laidOutB P = true) {f : Func} {s : ChangeSpec} {W W' : World} {args : Array Value} {ds gs : List (DataW H)} {before : List MemPlace} {tb : TypeId}
    (hW : DataW.Whole enc P f.params.toList s.vars false W args.toList ds gs before) (hv : s.vars = []) (hspec : s.fn H ds = { results := [.lit (.bool true)], args := ds })
    (hp : ∀ t ∈ f.params.toList, P.readableRec t = true ∧ t < P.types.size) (hr : f.resultTypes = #[tb]) (hbool : P.underlying tb = some .bool) (hb : Below W.heap.size W W') :
    s.post enc P f false true false false W args (.bool true) W' := by
  have hW0 := hW
  obtain ⟨pa, pv, hA, hV, hps, hz, -⟩ := hW
  rw [hv] at hV
  obtain ⟨rfl, rfl⟩ := trodVars_none hV
  rw [List.append_nil] at hps
  subst hps
  have hlt : ∀ x ∈ before, x.block < W.heap.size := fun x hx => hW0.lt x hx
  have hS : s.fn H (ds ++ []) = { results := [.lit (.bool true)], args := ds } := by rw [List.append_nil]; exact hspec
  have hres : ∀ (b : Nat) (sp : Nat → Bool) (hd : Bool), DataW.TrodAll enc P W' b sp hd f.resultTypes.toList ((Value.bool true).resultList f.resultTypes.size) [.lit (.bool true)] [] := by
    intro b sp hd
    rw [hr]
    exact trodAll_mk1 (shut_bool hbool _)
  have hargs : ∀ sp : Nat → Bool, (∀ x ∈ before, sp x.block = true) → DataW.TrodAll enc P W' 0 sp true f.params.toList args.toList ds before := fun sp hsp => args_stay hl hb sp _ _ _ _ hp hA hlt hsp
  refine ⟨ds, [], before, [], before, [], hW0, ?_, ?_, ?_, World.keptBut_mono (fun x hx => ⟨hx, .inr ?_⟩) (hb.frame (· ∈ before)), fun _ => ?_⟩
  · rw [hS]; exact hres _ _ _
  · rw [hS]; exact hargs _ (fun x hx => by simpa using hlt x hx)
  · rw [hS, hv]; exact rfl
  · simpa using hx
  · refine ⟨ok_one hr rfl (okWide_bool_mk hbool _), _, [], ([] ++ before) ++ [], ⟨[] ++ before, [], trodAll_append (hargs _ (fun _ _ => rfl)) (hres _ _ _), by rw [hv]; exact rfl, rfl, ?_, fun h => by cases h⟩, fun x hx _ => by simpa using hx⟩
    intro b off hx
    have hx' : MemPlace.cell b off ∈ before := by simpa using hx
    rw [hb.frozen (hlt _ hx')]
    exact hz b off hx'
end

/-- A law's row, from its contract. -/
theorem law_lift {C : Checked} {H : Type} {enc : TypeId × Value → H} {os : Os} (own : ownKnob C.prog.godebug = none) (started : os.Started) {f : FuncId} {fn : Func} {s : ChangeSpec}
    (noInit : C.prog.inits.idxOf? f = none) (hfn : C.prog.funcs[f]? = some fn)
    (witness : ∃ (w : World) (tape : Tape) (i : Input), w.os = os ∧ (w.forCall tape i).Shaped C.prog ∧ i.vars = [] ∧ Input.okWide C.prog (w.forCall tape i) .any w.heap.size f i ∧
      s.pre6 enc C.prog fn [] false (w.forCall tape i).memory i.args ∧ ({} : Assume).holds C.prog (lone (Frame.enter C.prog f i.args .normal) [] (w.forCall tape i)))
    (hl : laidOutB C.prog = true) (hv : s.vars = []) {tb : TypeId} (hr : fn.resultTypes = #[tb]) (hbool : C.prog.underlying tb = some .bool)
    (hp : ∀ t ∈ fn.params.toList, C.prog.readableRec t = true ∧ t < C.prog.types.size)
    (contract : ∀ (W : World) (base : Nat) (args : Array Value) (ds : List (DataW H)) (before : List MemPlace),
      (∀ (j : Nat) t v, fn.params[j]? = some t → args[j]? = some v → Value.okWide C.prog W .any base t v) →
      DataW.TrodAll enc C.prog W 0 (fun _ => true) true fn.params.toList args.toList ds before → (∀ x ∈ before, x.block < W.heap.size) →
      s.fn H ds = { results := [.lit (.bool true)], args := ds } ∧ Calls C.prog f args W fun e W' => e = .returned (.bool true) ∧ Below W.heap.size W W') :
    ReturnsInHanded {} C os f .any (s.pre6 enc C.prog fn [] false) (s.post enc C.prog fn false true false false) := by
  refine returnsInHanded_of_change own started noInit hfn witness ?_
  intro W base args ds gs before hval hW _ _
  have hW0 := hW
  obtain ⟨pa, pv, hA, hV, hps, -, -⟩ := hW
  rw [hv] at hV
  obtain ⟨rfl, rfl⟩ := trodVars_none hV
  rw [List.append_nil] at hps
  subst hps
  obtain ⟨h1, h2⟩ := contract W base args ds before hval hA (fun x hx => hW0.lt x hx)
  refine h2.mono fun e W' ⟨he, hb⟩ => ?_
  exact ⟨_, he, law_post hl hW0 hv h1 hp hr hbool hb⟩
end Go.Proofs.Ytednjpgibbnieaa

/-
  An argument that is a list of acts, read as cells: kind, width and number of each; no condition.
-/
namespace Go.Proofs.Ytednjpgibbnieaa
open Go.ChangeShapes Go.WideShapes Go.ChangeAt Go.RowKit Go.Deep

/-- The script's acts as cells: kind, width, number of each. -/
def Acts (w : World) (A : Option Addr) (len : Nat) (acts : List (Int × Int × Nat)) : Prop :=
  acts.length = len ∧ ∀ (i : Nat) (k n : Int) (v : Nat), acts[i]? = some (k, n, v) → v < 18446744073709551616 ∧ ∃ b o, A = some ⟨b, o, none⟩ ∧
    w.cell? ⟨b, o + i * 3, none⟩ = some (.int .i64 k) ∧ w.cell? ⟨b, o + i * 3 + 1, none⟩ = some (.int .i64 n) ∧ w.cell? ⟨b, o + i * 3 + 2, none⟩ = some (.int .u64 (v : Int))

theorem Acts.fr {w w' : World} {A : Option Addr} {len : Nat} {acts : List (Int × Int × Nat)} (h : Acts w A len acts) (hf : Fr [] w w') : Acts w' A len acts := by
  refine ⟨h.1, fun i k n v hi => ?_⟩
  obtain ⟨hv, b, o, rfl, h1, h2, h3⟩ := h.2 i k n v hi
  have f : ∀ (j : Nat) (u : Value), w.cell? ⟨b, j, none⟩ = some u → w'.cell? ⟨b, j, none⟩ = some u := fun j u hu => (hf.cell (World.block_lt_of_cell? w _ hu) (by simp)).trans hu
  exact ⟨hv, b, o, rfl, f _ _ h1, f _ _ h2, f _ _ h3⟩

theorem plain_of_cell {w : World} {a : Addr} {u : Value} (h : w.cell? a = some u) : a = ⟨a.block, a.off, none⟩ := by
  cases he : a.spot with
  | none => cases a; simp at he ⊢; exact he
  | some x =>
    unfold World.cell? at h
    simp only [he, Option.isSome_some, if_true] at h
    split at h <;> cases h

theorem add_plain (b o j : Nat) : (⟨b, o, none⟩ : Addr).add j = ⟨b, o + j, none⟩ := by
  by_cases hj : j = 0
  · subst hj; simp [Addr.add]
  · simp [Addr.add, hj]

theorem u64_nat {x : Int} (h : (Lit.int .u64 x).wf = true) : ∃ v : Nat, x = (v : Int) ∧ v < 18446744073709551616 := by
  simp [Lit.wf, IntKind.min, IntKind.max, IntKind.signed, IntKind.bits] at h
  exact ⟨x.toNat, by omega, by omega⟩

section
variable {H : Type} {enc : TypeId × Value → H} {w : World} {base : Nat} {spare : Nat → Bool} {held : Bool}
theorem u8_cell {x : Int} (h : (Lit.int .u8 x).wf = true) : ∃ b : UInt8, Value.int .u8 x = B8 b := by
  simp [Lit.wf, IntKind.min, IntKind.max, IntKind.signed, IntKind.bits] at h
  refine ⟨UInt8.ofNat x.toNat, ?_⟩
  simp only [B8, UInt8.toNat_ofNat', Value.int.injEq, true_and]
  rw [Nat.mod_eq_of_lt (by omega)]
  omega

end
end Go.Proofs.Ytednjpgibbnieaa

/-
  An argument that is a list of one-cell things (numbers, truth values), read as cells; no condition.
-/
namespace Go.Proofs.Ytednjpgibbnieaa
open Go.ChangeShapes Go.WideShapes Go.ChangeAt Go.RowKit Go.Deep

/-- The k-th cell of what came in. -/
theorem Src.cellAt {α : Type} {w : World} {A : Option Addr} {n c k : Nat} {xs : List α} {f : α → Value} (h : Src w (.slice A n c) (xs.map f)) {x : α} (hk : xs[k]? = some x) : ∃ ad, A = some ad ∧ w.cell? (ad.add k) = some (f x) := by
  rcases h with ⟨_, h0⟩ | ⟨ad, c', h1, _, hc⟩
  · rw [List.map_eq_nil_iff.1 h0] at hk; simp at hk
  · injection h1 with h1
    exact ⟨ad, h1, hc k _ (by rw [List.getElem?_map, hk]; rfl)⟩

section
variable {H : Type} {enc : TypeId × Value → H} {w : World} {base : Nat} {spare : Nat → Bool} {held : Bool}
theorem open_cells {α : Type} [Inhabited α] {st e : TypeId} (f : α → Value) (hst : Try.prog.underlying st = some (.slice e)) (hc : Try.prog.cellsOf e = 1)
    (each : ∀ n' cs x, DataW.trod enc Try.prog w base spare held n' e cs = some x → ∃ a : α, cs = [f a])
    {n : Nat} {v : Value} {d : DataW H} {ps : List MemPlace} (h : DataW.trod enc Try.prog w base spare held n st [v] = some (d, ps)) :
    ∃ (A : Option Addr) (len cap : Nat) (l : List α), v = .slice A len cap ∧ l.length = len ∧ len ≤ maxLen ∧ Src w (.slice A len cap) (l.map f) := by
  rcases open_slice hst h with ⟨h0, -⟩ | ⟨a, len, cap, m, n', D, Pl, h0, -, hcap, hm, hmm, -, hi⟩
  · exact ⟨none, 0, 0, [], by simpa using h0, rfl, by simp, .inl ⟨rfl, rfl⟩⟩
  · have hlm : len ≤ m := by rw [hmm]; split <;> omega
    have each2 : ∀ i, i < len → ∃ x : α, w.cell? (a.add i) = some (f x) := by
      intro i hil
      obtain ⟨cs', hcs, ht⟩ := hi i (by omega)
      rw [hc, Nat.mul_one] at hcs
      obtain ⟨-, -, hcell⟩ := World.cells?_some hcs
      obtain ⟨x, rfl⟩ := each _ _ _ ht
      have := hcell 0 (by omega)
      simp only [Addr.add, if_pos, List.getElem?_cons_zero] at this
      exact ⟨x, this⟩
    obtain ⟨g, hg⟩ := choose_lt each2
    refine ⟨some a, len, cap, (List.range len).map g, by simpa using h0, by simp, by omega, .inr ⟨a, cap, by simp, by simpa using hcap, fun j u hu => ?_⟩⟩
    rw [List.getElem?_map, List.getElem?_map] at hu
    by_cases hj : j < len
    · rw [List.getElem?_range hj] at hu
      simp at hu
      rw [← hu]
      exact hg j hj
    · rw [List.getElem?_eq_none (by simpa using hj)] at hu
      simp at hu

/-- A number in a cell. -/
def C64 (x : UInt64) : Value := .int .u64 (x.toNat : Int)
def I64 (x : Int) : Value := .int .i64 x

end
end Go.Proofs.Ytednjpgibbnieaa

/-
  Numbers that a call made for itself: their cells, what is appended. No program text here but the type []int.
-/
namespace Go.Proofs.Ytednjpgibbnieaa
open Go.RowKit

theorem info_num : (Try.prog.info? 3).map (fun i => (i.zero, i.size, i.bytes)) = some (some (.int .i64 0), 1, 8) := by kernel_rfl

/-- Numbers in memory that is new since w0. -/
structure MineN (w0 w : World) (v : Value) (ns : List Int) : Prop where
  own : Own w 3 v (ns.map I64)
  fr : Fr [] w0 w
  new : ∀ k, v.ownBlock = some k → w0.heap.size ≤ k
section
variable {w0 w w' : World} {v : Value} {ns : List Int}
theorem MineN.fr0 (h : MineN w0 w v ns) (hf : Fr [] w w') : MineN w0 w' v ns := ⟨h.own.fr hf (by simp), h.fr.trans hf (by simp), h.new⟩
theorem MineN.src (h : MineN w0 w v ns) : Src w v (ns.map I64) := h.own.src
theorem MineN.nil (hf : Fr [] w0 w) : MineN w0 w (.slice none 0 0) [] := ⟨Own.nil _ _, hf, by simp [Value.ownBlock]⟩
theorem MineN.slice (h : MineN w0 w v ns) : ∃ A c, v = .slice A ns.length c := by
  rcases h.own.form with ⟨rfl, h0⟩ | ⟨g, cap, cur, rfl, -⟩
  · exact ⟨none, 0, by have := congrArg List.length h0; simp at this; rw [this]; rfl⟩
  · exact ⟨_, _, by simp; exact ⟨rfl, rfl⟩⟩
theorem MineN.appended {v' : Value} {ms : List Int} (h : MineN w0 w v ns) (hO : Own w' 3 v' ((ns ++ ms).map I64)) (hG : Own1 v v' w w') : MineN w0 w' v' (ns ++ ms) := by
  refine ⟨hO, h.fr.trans hG.1 (by intro x hx; exact .inr (h.new x (by simpa using hx))), ?_⟩
  intro k hk
  have := h.fr.size
  rcases hG.2 with e | ⟨g, e, hg⟩
  · rw [e] at hk; exact h.new k hk
  · rw [e] at hk; injection hk with hk; subst hk; omega
/-- What was written by an append is not another's row. -/
theorem MineN.beside {v' u : Value} {ms : List Int} (h : MineN w0 w u ms) (hG : Own1 v v' w w') (hn : ∀ k, u.ownBlock = some k → v.ownBlock ≠ some k) (hw : ∀ k, v.ownBlock = some k → w0.heap.size ≤ k) : MineN w0 w' u ms :=
  ⟨h.own.fr hG.1 (fun k hk hm => hn k hk (by simpa using hm)), h.fr.trans hG.1 (fun x hx => .inr (hw x (by simpa using hx))), h.new⟩
end
theorem I64_one (ns : List Int) : ∀ u ∈ ns.map I64, u.oneCell' = true := by
  intro u hu
  obtain ⟨b, _, rfl⟩ := List.mem_map.1 hu
  rfl
/-- append onto numbers of the call's own. -/
theorem wp_append_num {w : World} {ops : Array Oper} {rest : List Oper} {o : Oper} {a : Act} {Q : Exit → Act → World → Prop} (s x : Operand) (v : Value) (ns : List Int) (src : Value) (ms : List Int)
    (hgd : o.guard = none) (ho : o.op = .call { callee := .builtin .append, args := #[s, x], argTypes := #[22, 22] })
    (hv : a.eval s = v) (hsv : a.eval x = src) (hown : Own w 3 v (ns.map I64)) (hs : Src w src (ms.map I64)) (hlen : ns.length + ms.length ≤ 1000000)
    (h : ∀ A c w', Own w' 3 (.slice A (ns.length + ms.length) c) ((ns ++ ms).map I64) → Own1 v (.slice A (ns.length + ms.length) c) w w' → wpList Try.prog ops Q rest (a.put o.dst (.slice A (ns.length + ms.length) c)) w') : wpList Try.prog ops Q (o :: rest) a w := by
  obtain ⟨i, hi, hz, h1, h2⟩ := info_parts info_num
  refine wpList_append_mine s x 22 3 i _ 8 hgd ho Try.underlying22 hi hz h1 h2 rfl v _ src _ hv hsv hown hs (I64_one ms) ?_ ?_ ?_
  · simp only [List.length_map, maxLen]; omega
  · simp only [List.length_map]; omega
  · intro v' w' k1 k2
    rw [← List.map_append] at k1
    obtain ⟨A, c, rfl⟩ : ∃ A c, v' = .slice A (ns.length + ms.length) c := by
      rcases k1.form with ⟨rfl, h0⟩ | ⟨g, cap, cur, rfl, -⟩
      · have := congrArg List.length h0
        simp at this
        exact ⟨none, 0, by simp [this]⟩
      · exact ⟨_, _, by rw [List.length_map, List.length_append]⟩
    exact h A c w' k1 k2
/-- The same as one step of a region whose order is open. -/
theorem step_append_num {w : World} {ops : Array Oper} {o : Oper} {a : Act} {K : Act → World → Prop} {Q : Exit → Act → World → Prop} {E : Prop} (s x : Operand) (v : Value) (ns : List Int) (src : Value) (ms : List Int)
    (hw : Region.wanted o (yielded ops a.tmps) = true) (ho : o.op = .call { callee := .builtin .append, args := #[s, x], argTypes := #[22, 22] })
    (hv : a.eval s = v) (hsv : a.eval x = src) (hown : Own w 3 v (ns.map I64)) (hs : Src w src (ms.map I64)) (hlen : ns.length + ms.length ≤ 1000000)
    (h : ∀ A c w', Own w' 3 (.slice A (ns.length + ms.length) c) ((ns ++ ms).map I64) → Own1 v (.slice A (ns.length + ms.length) c) w w' → K (a.put o.dst (.slice A (ns.length + ms.length) c)) w') : if Region.wanted o (yielded ops a.tmps) = true then Oper.wp Try.prog o a w K Q else E := by
  rw [if_pos hw]
  obtain ⟨i, hi, hz, h1, h2⟩ := info_parts info_num
  refine wp_append_mine s x 22 3 i _ 8 ho Try.underlying22 hi hz h1 h2 rfl v _ src _ hv hsv hown hs (I64_one ms) ?_ ?_ ?_
  · simp only [List.length_map, maxLen]; omega
  · simp only [List.length_map]; omega
  · intro A c w' k1 k2
    simp only [List.length_map] at k1 k2 ⊢
    rw [← List.map_append] at k1
    exact h A c w' k1 k2
/-- Numbers answered. -/
def NumsPost (w : World) (l : List Int) (e : Ending) (w' : World) : Prop :=
  ∃ A c, e = .returned (.slice A l.length c) ∧ Src w' (.slice A l.length c) (l.map I64) ∧ Fr [] w w'
theorem Src.num {w : World} {ad : Option Addr} {n c k : Nat} {ns : List Int} (h : Src w (.slice ad n c) (ns.map I64)) (hk : k < ns.length) : ∃ a, ad = some a ∧ w.cell? (a.add k) = some (.int .i64 (ns.getD k 0)) := by
  obtain ⟨a, e, hc⟩ := h.cellAt (f := I64) (x := ns.getD k 0) (k := k) (by rw [List.getD_eq_getElem?_getD, List.getElem?_eq_getElem hk]; rfl)
  exact ⟨a, e, hc⟩
/-- A part of a slice. -/
theorem Src.part {w : World} {ad : Addr} {n c k m : Nat} {ns : List Int} (h : Src w (.slice (some ad) n c) (ns.map I64)) (hn : n = ns.length) (hk : k + m ≤ n) (hm : 1 ≤ m) : Src w (.slice (some (ad.add k)) m (c - k)) (((ns.drop k).take m).map I64) := by
  rcases h with ⟨e, -⟩ | ⟨ad', c', e, hle, hcell⟩
  · cases e
  · injection e with q1 q2 q3
    injection q1 with q1
    subst q1 q3
    rw [List.length_map] at hle
    have hl : (((ns.drop k).take m).map I64).length = m := by simp; omega
    refine .inr ⟨ad.add k, c - k, by rw [hl], by rw [hl]; omega, fun j u hu => ?_⟩
    have hj : j < m := by have := (List.getElem?_eq_some_iff.1 hu).1; omega
    rw [addr_add_add]
    refine hcell (k + j) u ?_
    rw [← hu, List.getElem?_map, List.getElem?_map, List.getElem?_take, if_pos hj, List.getElem?_drop]
theorem Src.numS {w : World} {a : Addr} {n c k : Nat} {ns : List Int} (h : Src w (.slice (some a) n c) (ns.map I64)) (hk : k < ns.length) : w.cell? (a.add k) = some (.int .i64 (ns.getD k 0)) := by
  obtain ⟨a', e, hc⟩ := h.num hk
  injection e with e
  subst e
  exact hc
end Go.Proofs.Ytednjpgibbnieaa

/-
  Blocks of numbers and their transform, by their places; the order of a block's places. Plain: no program text.
-/
namespace Go.Proofs.Ytednjpgibbnieaa

/-- A row's transform at a place: 2^k numbers. -/
def rowAt : Nat → (Nat → Int) → Nat → Int
  | 0, r, x => r x
  | k + 1, r, x => if x < 2 ^ k then rowAt k (fun j => (r (2 * j) + r (2 * j + 1)) / 2) x else r (2 * (x - 2 ^ k)) - r (2 * (x - 2 ^ k) + 1)
/-- What was transformed into a row, at a place. -/
def unrowAt : Nat → (Nat → Int) → Nat → Int
  | 0, r, x => r x
  | k + 1, r, x => unrowAt k r (x / 2) - r (2 ^ k + x / 2) / 2 + (if x % 2 = 0 then r (2 ^ k + x / 2) else 0)
theorem rowAt_succ (k : Nat) (r : Nat → Int) (x : Nat) : rowAt (k + 1) r x = if x < 2 ^ k then rowAt k (fun j => (r (2 * j) + r (2 * j + 1)) / 2) x else r (2 * (x - 2 ^ k)) - r (2 * (x - 2 ^ k) + 1) := rfl
theorem unrowAt_succ (k : Nat) (r : Nat → Int) (x : Nat) : unrowAt (k + 1) r x = unrowAt k r (x / 2) - r (2 ^ k + x / 2) / 2 + (if x % 2 = 0 then r (2 ^ k + x / 2) else 0) := rfl
/-- A block's transform at column x, row y; back. -/
def fwdAt (k : Nat) (f : Nat → Int) (x y : Nat) : Int := rowAt k (fun j => rowAt k (fun i => f (j * 2 ^ k + i)) x) y
def bckAt (k : Nat) (f : Nat → Int) (x y : Nat) : Int := unrowAt k (fun i => unrowAt k (fun j => f (j * 2 ^ k + i)) y) x
def blkL (k : Nat) (g : Nat → Nat → Int) : List Int := (List.range (2 ^ k * 2 ^ k)).map fun i => g (i % 2 ^ k) (i / 2 ^ k)
def numAt (b : List Int) (i : Nat) : Int := b.getD i 0
/-- Of a block with so many numbers: its side is 2^k. -/
def sideK (n : Nat) : Nat := if n = 16 then 2 else if n = 64 then 3 else 0
def withinB (b : List Int) (m : Int) : Bool := b.all fun v => decide (-m ≤ v) && decide (v ≤ m)
def liftF (b : List Int) : List Int × Int := if sideK b.length = 0 ∨ withinB b 1048576 = false then ([], 1) else (blkL (sideK b.length) (fwdAt (sideK b.length) (numAt b)), 0)
def liftB (b : List Int) : List Int × Int := if sideK b.length = 0 ∨ withinB b 67108864 = false then ([], 1) else (blkL (sideK b.length) (bckAt (sideK b.length) (numAt b)), 0)
/-- The order of a block's places: one diagonal, all. -/
def diag (n s : Nat) : List Nat := (List.range n).flatMap fun y => if y ≤ s ∧ s - y < n then [y * n + (s - y)] else []
def orderN (n : Nat) : List Nat := (List.range (2 * n - 1)).flatMap (diag n)
def orderL (n : Int) : List Nat := if n = 4 ∨ n = 8 then orderN n.toNat else []
def sideN (n : Nat) : Nat := if n = 16 then 4 else if n = 64 then 8 else 0
def sortL (b : List Int) : List Int := (orderL (sideN b.length)).map (numAt b)
def unsortL (b : List Int) : List Int := (List.range (orderL (sideN b.length)).length).map fun p => numAt b ((orderL (sideN b.length)).idxOf p)

/-! A number more everywhere. -/
theorem rowAt_congr : ∀ (k : Nat) (r s : Nat → Int) (x : Nat), x < 2 ^ k → (∀ j, j < 2 ^ k → r j = s j) → rowAt k r x = rowAt k s x
  | 0, r, s, x, hx, h => h x hx
  | k + 1, r, s, x, hx, h => by
    have e : 2 ^ (k + 1) = 2 * 2 ^ k := by rw [Nat.pow_succ, Nat.mul_comm]
    unfold rowAt
    split
    · rename_i h1
      exact rowAt_congr k _ _ x h1 fun j hj => by rw [h (2 * j) (by omega), h (2 * j + 1) (by omega)]
    · rw [h _ (by omega), h _ (by omega)]
theorem rowAt_shift : ∀ (k : Nat) (r : Nat → Int) (v : Int) (x : Nat), rowAt k (fun j => r j + v) x = rowAt k r x + (if x < 1 ∨ k = 0 then v else 0)
  | 0, r, v, x => by simp [rowAt]
  | k + 1, r, v, x => by
    unfold rowAt
    have hp := Nat.two_pow_pos k
    by_cases h1 : x < 2 ^ k
    · rw [if_pos h1, if_pos h1]
      have e : (fun j => (r (2 * j) + v + (r (2 * j + 1) + v)) / 2) = fun j => (r (2 * j) + r (2 * j + 1)) / 2 + v := by
        funext j
        omega
      rw [e, rowAt_shift k _ v x]
      congr 1
      by_cases hx : x < 1
      · rw [if_pos (.inl hx), if_pos (.inl hx)]
      · rw [if_neg (c := x < 1 ∨ k + 1 = 0) (by omega)]
        by_cases hk : k = 0
        · subst hk
          omega
        · rw [if_neg (by omega)]
    · rw [if_neg h1, if_neg h1, if_neg (by omega)]
      show r (2 * (x - 2 ^ k)) + v - (r (2 * (x - 2 ^ k) + 1) + v) = _
      omega
theorem rowAt_zero : ∀ (k x : Nat), rowAt k (fun _ => 0) x = 0
  | 0, x => rfl
  | k + 1, x => by
    unfold rowAt
    split
    · exact rowAt_zero k x
    · rfl
theorem fwd_shift (k : Nat) (f : Nat → Int) (v : Int) (x y : Nat) (hk : 1 ≤ k) : fwdAt k (fun i => f i + v) x y = fwdAt k f x y + (if x = 0 ∧ y = 0 then v else 0) := by
  unfold fwdAt
  by_cases hx : x = 0
  · have e : (fun j => rowAt k (fun i => f (j * 2 ^ k + i) + v) x) = fun j => rowAt k (fun i => f (j * 2 ^ k + i)) x + v := by
      funext j
      rw [rowAt_shift k (fun i => f (j * 2 ^ k + i)) v x, if_pos (.inl (by omega))]
    rw [e, rowAt_shift]
    congr 1
    by_cases hy : y = 0
    · rw [if_pos (.inl (by omega)), if_pos ⟨hx, hy⟩]
    · rw [if_neg (by omega), if_neg (fun h => hy h.2)]
  · have e : (fun j => rowAt k (fun i => f (j * 2 ^ k + i) + v) x) = fun j => rowAt k (fun i => f (j * 2 ^ k + i)) x := by
      funext j
      rw [rowAt_shift k (fun i => f (j * 2 ^ k + i)) v x, if_neg (by omega), Int.add_zero]
    rw [e, if_neg (fun h => hx h.1), Int.add_zero]
theorem fwd_zero (k x y : Nat) : fwdAt k (fun _ => 0) x y = 0 := by
  unfold fwdAt
  have e : (fun j : Nat => rowAt k (fun _ => 0) x) = fun _ => 0 := by funext j; exact rowAt_zero k x
  rw [e]
  exact rowAt_zero k y
theorem fwd_flat (k : Nat) (v : Int) (x y : Nat) (hk : 1 ≤ k) : fwdAt k (fun _ => v) x y = if x = 0 ∧ y = 0 then v else 0 := by
  have := fwd_shift k (fun _ => 0) v x y hk
  rw [fwd_zero] at this
  simpa using this

/-! How great. -/
theorem rowAt_le : ∀ (k : Nat) (r : Nat → Int) (m : Int) (x : Nat), x < 2 ^ k → (∀ j, j < 2 ^ k → -m ≤ r j ∧ r j ≤ m) → (-(2 * m) ≤ rowAt k r x ∧ rowAt k r x ≤ 2 * m) ∧ (x = 0 → -m ≤ rowAt k r x ∧ rowAt k r x ≤ m)
  | 0, r, m, x, hx, h => by
    have := h x hx
    unfold rowAt
    omega
  | k + 1, r, m, x, hx, h => by
    have e : 2 ^ (k + 1) = 2 * 2 ^ k := by rw [Nat.pow_succ, Nat.mul_comm]
    have hp := Nat.two_pow_pos k
    unfold rowAt
    split
    · rename_i h1
      refine rowAt_le k _ m x h1 fun j hj => ?_
      have a := h (2 * j) (by omega)
      have b := h (2 * j + 1) (by omega)
      omega
    · have a := h (2 * (x - 2 ^ k)) (by omega)
      have b := h (2 * (x - 2 ^ k) + 1) (by omega)
      exact ⟨by omega, fun hx0 => by omega⟩
theorem cell_of {n x y : Nat} (hx : x < n) (hy : y < n) : y * n + x < n * n := by
  have : (y + 1) * n ≤ n * n := Nat.mul_le_mul_right _ hy
  rw [Nat.add_mul] at this
  omega
theorem fwd_le (k : Nat) (f : Nat → Int) (m : Int) (x y : Nat) (hx : x < 2 ^ k) (hy : y < 2 ^ k) (h : ∀ i, i < 2 ^ k * 2 ^ k → -m ≤ f i ∧ f i ≤ m) :
    (-(4 * m) ≤ fwdAt k f x y ∧ fwdAt k f x y ≤ 4 * m) ∧ (x = 0 → y = 0 → -m ≤ fwdAt k f x y ∧ fwdAt k f x y ≤ m) := by
  have hrow := fun j (hj : j < 2 ^ k) => rowAt_le k (fun i => f (j * 2 ^ k + i)) m x hx fun i hi => h _ (cell_of hi hj)
  unfold fwdAt
  refine ⟨?_, fun hx0 hy0 => ?_⟩
  · have := (rowAt_le k (fun j => rowAt k (fun i => f (j * 2 ^ k + i)) x) (2 * m) y hy fun j hj => (hrow j hj).1).1
    omega
  · exact (rowAt_le k (fun j => rowAt k (fun i => f (j * 2 ^ k + i)) x) m y hy fun j hj => (hrow j hj).2 hx0).2 hy0

theorem blkL_length (k : Nat) (g : Nat → Nat → Int) : (blkL k g).length = 2 ^ k * 2 ^ k := by simp [blkL]
theorem blkL_get (k : Nat) (g : Nat → Nat → Int) {i : Nat} (h : i < 2 ^ k * 2 ^ k) : numAt (blkL k g) i = g (i % 2 ^ k) (i / 2 ^ k) := by
  unfold numAt blkL
  rw [List.getD_eq_getElem?_getD, List.getElem?_map, List.getElem?_range h]
  rfl

/-! Sorted and unsorted. -/
theorem order_perm4 : ∀ p, p < 16 → (orderL 4).idxOf p < 16 ∧ (orderL 4)[(orderL 4).idxOf p]? = some p := by decide
theorem order_perm8 : ∀ p, p < 64 → (orderL 8).idxOf p < 64 ∧ (orderL 8)[(orderL 8).idxOf p]? = some p := by decide +kernel
theorem order_back4 : ∀ i, i < 16 → (orderL 4).getD i 0 < 16 ∧ (orderL 4).idxOf ((orderL 4).getD i 0) = i := by decide
theorem order_back8 : ∀ i, i < 64 → (orderL 8).getD i 0 < 64 ∧ (orderL 8).idxOf ((orderL 8).getD i 0) = i := by decide +kernel
end Go.Proofs.Ytednjpgibbnieaa

/-
  The transform by lists, as the document's functions make it. Plain: no program text.
-/
namespace Go.Proofs.Ytednjpgibbnieaa

theorem numAt_map {n : Nat} {f : Nat → Int} {i : Nat} (h : i < n) : numAt ((List.range n).map f) i = f i := by
  unfold numAt
  rw [List.getD_eq_getElem?_getD, List.getElem?_map, List.getElem?_range h]
  rfl
theorem num_ext {a b : List Int} (h : a.length = b.length) (k : ∀ i, i < a.length → numAt a i = numAt b i) : a = b := by
  apply List.ext_getElem?
  intro i
  by_cases hi : i < a.length
  · have := k i hi
    unfold numAt at this
    rw [List.getD_eq_getElem?_getD, List.getD_eq_getElem?_getD, List.getElem?_eq_getElem hi, List.getElem?_eq_getElem (by omega)] at this
    rw [List.getElem?_eq_getElem hi, List.getElem?_eq_getElem (by omega)]
    simpa using this
  · rw [List.getElem?_eq_none (by omega), List.getElem?_eq_none (by omega)]

/-! A row. -/
def rowL (k : Nat) (l : List Int) : List Int := (List.range (2 ^ k)).map (rowAt k (numAt l))
def lowsL (l : List Int) (m : Nat) : List Int := (List.range m).map fun j => (numAt l (2 * j) + numAt l (2 * j + 1)) / 2
def highsL (l : List Int) (m : Nat) : List Int := (List.range m).map fun j => numAt l (2 * j) - numAt l (2 * j + 1)
theorem rowL_length (k : Nat) (l : List Int) : (rowL k l).length = 2 ^ k := by simp [rowL]
theorem rowL_zero {l : List Int} (h : l.length = 1) : rowL 0 l = l := by
  apply num_ext
  · rw [rowL_length, h]
  · intro i hi
    rw [rowL_length] at hi
    exact numAt_map hi
theorem rowL_succ (k : Nat) (l : List Int) : rowL (k + 1) l = rowL k (lowsL l (2 ^ k)) ++ highsL l (2 ^ k) := by
  have e : 2 ^ (k + 1) = 2 ^ k + 2 ^ k := by rw [Nat.pow_succ]; omega
  unfold rowL highsL
  rw [e, List.range_add, List.map_append, List.map_map]
  congr 1
  · apply List.map_congr_left
    intro x hx
    rw [List.mem_range] at hx
    rw [rowAt_succ, if_pos hx]
    exact rowAt_congr k _ _ x hx fun j hj => (numAt_map (f := fun j => (numAt l (2 * j) + numAt l (2 * j + 1)) / 2) hj).symm
  · apply List.map_congr_left
    intro x hx
    show rowAt (k + 1) (numAt l) (2 ^ k + x) = _
    rw [rowAt_succ, if_neg (by omega), Nat.add_sub_cancel_left]

def unrowL (k : Nat) (l : List Int) : List Int := (List.range (2 ^ k)).map (unrowAt k (numAt l))
theorem unrowL_length (k : Nat) (l : List Int) : (unrowL k l).length = 2 ^ k := by simp [unrowL]
theorem unrowL_zero {l : List Int} (h : l.length = 1) : unrowL 0 l = l := by
  apply num_ext
  · rw [unrowL_length, h]
  · intro i hi
    rw [unrowL_length] at hi
    exact numAt_map hi
theorem unrowAt_congr : ∀ (k : Nat) (r s : Nat → Int) (x : Nat), x < 2 ^ k → (∀ j, j < 2 ^ k → r j = s j) → unrowAt k r x = unrowAt k s x
  | 0, r, s, x, hx, h => h x hx
  | k + 1, r, s, x, hx, h => by
    have e : 2 ^ (k + 1) = 2 * 2 ^ k := by rw [Nat.pow_succ, Nat.mul_comm]
    unfold unrowAt
    rw [unrowAt_congr k r s (x / 2) (by omega) (fun j hj => h j (by omega)), h (2 ^ k + x / 2) (by omega)]
/-- The first i pairs of a row that is taken back. -/
def unpairs (k : Nat) (l : List Int) (i : Nat) : List Int := (List.range (2 * i)).map (unrowAt (k + 1) (numAt l))
theorem unpairs_length (k : Nat) (l : List Int) (i : Nat) : (unpairs k l i).length = 2 * i := by simp [unpairs]
theorem unpairs_zero (k : Nat) (l : List Int) : unpairs k l 0 = [] := rfl
theorem unpairs_full (k : Nat) (l : List Int) : unpairs k l (2 ^ k) = unrowL (k + 1) l := by
  unfold unpairs unrowL
  rw [Nat.pow_succ, Nat.mul_comm]
theorem take_num {l : List Int} {n j : Nat} (h : j < n) : numAt (l.take n) j = numAt l j := by
  unfold numAt
  rw [List.getD_eq_getElem?_getD, List.getD_eq_getElem?_getD, List.getElem?_take, if_pos h]
theorem unpairs_succ (k : Nat) (l : List Int) (i : Nat) (hi : i < 2 ^ k) :
    unpairs k l (i + 1) = unpairs k l i ++ [numAt (unrowL k (l.take (2 ^ k))) i - numAt l (2 ^ k + i) / 2 + numAt l (2 ^ k + i), numAt (unrowL k (l.take (2 ^ k))) i - numAt l (2 ^ k + i) / 2] := by
  have hlow : numAt (unrowL k (l.take (2 ^ k))) i = unrowAt k (numAt l) i := by
    unfold unrowL
    rw [numAt_map hi]
    exact unrowAt_congr k _ _ i hi fun j hj => take_num hj
  unfold unpairs
  rw [show 2 * (i + 1) = 2 * i + 1 + 1 by omega, List.range_succ, List.range_succ, List.map_append, List.map_append, List.append_assoc]
  congr 1
  rw [hlow]
  have e1 : 2 * i / 2 = i := by omega
  have e2 : (2 * i + 1) / 2 = i := by omega
  have e3 : 2 * i % 2 = 0 := by omega
  have e4 : ¬ (2 * i + 1) % 2 = 0 := by omega
  simp only [List.map_cons, List.map_nil, List.cons_append, List.nil_append]
  rw [unrowAt_succ, unrowAt_succ, e1, e2, if_pos e3, if_neg e4, Int.add_zero]

/-! How great what is taken back may be. -/
theorem unrowAt_le : ∀ (k : Nat) (r : Nat → Int) (m : Int) (x : Nat), x < 2 ^ k → 1 ≤ m → (∀ j, j < 2 ^ k → -m ≤ r j ∧ r j ≤ m) → -((2 * k + 1 : Nat) * m) ≤ unrowAt k r x ∧ unrowAt k r x ≤ (2 * k + 1 : Nat) * m
  | 0, r, m, x, hx, _, h => by
    have := h x hx
    unfold unrowAt
    simp
    omega
  | k + 1, r, m, x, hx, hm, h => by
    have e : 2 ^ (k + 1) = 2 * 2 ^ k := by rw [Nat.pow_succ, Nat.mul_comm]
    have h1 := unrowAt_le k r m (x / 2) (by omega) hm (fun j hj => h j (by omega))
    have h2 := h (2 ^ k + x / 2) (by omega)
    have e2 : ((2 * (k + 1) + 1 : Nat) : Int) * m = ((2 * k + 1 : Nat) : Int) * m + 2 * m := by
      rw [show ((2 * (k + 1) + 1 : Nat) : Int) = ((2 * k + 1 : Nat) : Int) + 2 by omega, Int.add_mul]
    rw [e2]
    generalize ((2 * k + 1 : Nat) : Int) * m = U at h1
    unfold unrowAt
    split <;> omega

/-! Blocks. -/
def turnL (n : Nat) (b : List Int) : List Int := (List.range (n * n)).map fun i => numAt b (i % n * n + i / n)
def rowsL (back : Bool) (k : Nat) (b : List Int) : List Int := (List.range (2 ^ k * 2 ^ k)).map fun i => if back then unrowAt k (fun j => numAt b (i / 2 ^ k * 2 ^ k + j)) (i % 2 ^ k) else rowAt k (fun j => numAt b (i / 2 ^ k * 2 ^ k + j)) (i % 2 ^ k)
/-- The first m numbers of a turned block. -/
def turnTo (n : Nat) (b : List Int) (m : Nat) : List Int := (List.range m).map fun i => numAt b (i % n * n + i / n)
theorem turnTo_length (n : Nat) (b : List Int) (m : Nat) : (turnTo n b m).length = m := by simp [turnTo]
theorem turnTo_succ {n : Nat} (b : List Int) {x y : Nat} (hy : y < n) : turnTo n b (x * n + y + 1) = turnTo n b (x * n + y) ++ [numAt b (y * n + x)] := by
  unfold turnTo
  rw [List.range_succ, List.map_append]
  congr 1
  have e1 : (x * n + y) % n = y := by rw [Nat.mul_comm, Nat.mul_add_mod, Nat.mod_eq_of_lt hy]
  have e2 : (x * n + y) / n = x := by rw [Nat.mul_comm, Nat.mul_add_div (by omega), Nat.div_eq_of_lt hy, Nat.add_zero]
  simp only [List.map_cons, List.map_nil, e1, e2]
theorem turnL_length (n : Nat) (b : List Int) : (turnL n b).length = n * n := by simp [turnL]
theorem rowsL_length (back : Bool) (k : Nat) (b : List Int) : (rowsL back k b).length = 2 ^ k * 2 ^ k := by simp [rowsL]
theorem divmod {n x y : Nat} (hx : x < n) : (y * n + x) % n = x ∧ (y * n + x) / n = y := by
  refine ⟨?_, ?_⟩
  · rw [Nat.mul_comm, Nat.mul_add_mod, Nat.mod_eq_of_lt hx]
  · rw [Nat.mul_comm, Nat.mul_add_div (by omega), Nat.div_eq_of_lt hx, Nat.add_zero]
theorem turnL_at {n : Nat} {b : List Int} {x y : Nat} (hx : x < n) (hy : y < n) : numAt (turnL n b) (y * n + x) = numAt b (x * n + y) := by
  unfold turnL
  rw [numAt_map (cell_of hx hy)]
  obtain ⟨e1, e2⟩ := divmod (y := y) hx
  simp only [e1, e2]
theorem rowsL_at {back : Bool} {k : Nat} {b : List Int} {x y : Nat} (hx : x < 2 ^ k) (hy : y < 2 ^ k) :
    numAt (rowsL back k b) (y * 2 ^ k + x) = if back then unrowAt k (fun j => numAt b (y * 2 ^ k + j)) x else rowAt k (fun j => numAt b (y * 2 ^ k + j)) x := by
  unfold rowsL
  rw [numAt_map (cell_of hx hy)]
  obtain ⟨e1, e2⟩ := divmod (y := y) hx
  simp only [e1, e2]
theorem by_cell {n i : Nat} (h : i < n * n) : i % n < n ∧ i / n < n ∧ i / n * n + i % n = i := by
  have hn : 0 < n := by
    rcases Nat.eq_zero_or_pos n with rfl | h0
    · simp at h
    · exact h0
  refine ⟨Nat.mod_lt _ hn, Nat.div_lt_of_lt_mul h, ?_⟩
  rw [Nat.mul_comm]
  exact Nat.div_add_mod i n
theorem fwd_list (k : Nat) (b : List Int) : turnL (2 ^ k) (rowsL false k (turnL (2 ^ k) (rowsL false k b))) = blkL k (fwdAt k (numAt b)) := by
  apply num_ext
  · rw [turnL_length, blkL_length]
  · intro i hi
    rw [turnL_length] at hi
    obtain ⟨hx, hy, he⟩ := by_cell hi
    rw [blkL_get k _ hi]
    generalize i % 2 ^ k = x at hx he
    generalize i / 2 ^ k = y at hy he
    rw [← he, turnL_at hx hy, rowsL_at hy hx, if_neg (by simp)]
    unfold fwdAt
    refine rowAt_congr k _ _ y hy fun j hj => ?_
    rw [turnL_at hj hx, rowsL_at hx hj, if_neg (by simp)]
theorem bck_list (k : Nat) (b : List Int) : rowsL true k (turnL (2 ^ k) (rowsL true k (turnL (2 ^ k) b))) = blkL k (bckAt k (numAt b)) := by
  apply num_ext
  · rw [rowsL_length, blkL_length]
  · intro i hi
    rw [rowsL_length] at hi
    obtain ⟨hx, hy, he⟩ := by_cell hi
    rw [blkL_get k _ hi]
    generalize i % 2 ^ k = x at hx he
    generalize i / 2 ^ k = y at hy he
    rw [← he, rowsL_at hx hy, if_pos rfl]
    unfold bckAt
    refine unrowAt_congr k _ _ x hx fun j hj => ?_
    rw [turnL_at hj hy, rowsL_at hy hj, if_pos rfl]
    refine unrowAt_congr k _ _ y hy fun i' hi' => ?_
    rw [turnL_at hi' hj]
/-- A row of a block. -/
def rowOfB (b : List Int) (n y : Nat) : List Int := (b.drop (y * n)).take n
theorem rowOfB_at {b : List Int} {n y j : Nat} (hj : j < n) : numAt (rowOfB b n y) j = numAt b (y * n + j) := by
  unfold rowOfB numAt
  rw [List.getD_eq_getElem?_getD, List.getD_eq_getElem?_getD, List.getElem?_take, if_pos hj, List.getElem?_drop]
/-- The first y rows. -/
def rowsTo (back : Bool) (k : Nat) (b : List Int) (y : Nat) : List Int := (List.range (y * 2 ^ k)).map fun i => if back then unrowAt k (fun j => numAt b (i / 2 ^ k * 2 ^ k + j)) (i % 2 ^ k) else rowAt k (fun j => numAt b (i / 2 ^ k * 2 ^ k + j)) (i % 2 ^ k)
theorem rowsTo_length (back : Bool) (k : Nat) (b : List Int) (y : Nat) : (rowsTo back k b y).length = y * 2 ^ k := by simp [rowsTo]
theorem rowsTo_succ (back : Bool) (k : Nat) (b : List Int) (y : Nat) : rowsTo back k b (y + 1) = rowsTo back k b y ++ (if back then unrowL k (rowOfB b (2 ^ k) y) else rowL k (rowOfB b (2 ^ k) y)) := by
  unfold rowsTo
  rw [Nat.add_mul, Nat.one_mul, List.range_add, List.map_append, List.map_map]
  congr 1
  cases back
  · rw [if_neg (by simp)]
    unfold rowL
    apply List.map_congr_left
    intro x hx
    rw [List.mem_range] at hx
    obtain ⟨e1, e2⟩ := divmod (y := y) hx
    simp only [Function.comp, e1, e2]
    rw [if_neg (by simp)]
    exact rowAt_congr k _ _ x hx fun j hj => (rowOfB_at hj).symm
  · rw [if_pos rfl]
    unfold unrowL
    apply List.map_congr_left
    intro x hx
    rw [List.mem_range] at hx
    obtain ⟨e1, e2⟩ := divmod (y := y) hx
    simp only [Function.comp, e1, e2]
    rw [if_pos trivial]
    exact unrowAt_congr k _ _ x hx fun j hj => (rowOfB_at hj).symm
end Go.Proofs.Ytednjpgibbnieaa

/-
  A region whose order is open: what is known of the worlds to come may grow as its calls are made. No program text here.
-/
namespace Go.Proofs.Ytednjpgibbnieaa

theorem wpAnyH_add {P : Program} {md : Region.Mode} {ops : Array Oper} {Q : Exit → Act → World → Prop} {S : World → Prop} (F : World → Prop) :
    ∀ (fuel : Nat) (listed : Array Bool) (a : Act) (w : World), wpAnyH P md ops Q (fun W => S W ∧ F W) fuel listed a w → wpAnyH P md ops Q S fuel listed a w
  | 0, _, _, _, h => h
  | fuel + 1, _, _, _, h => ⟨h.1, fun i hi => wpOp_mono (fun _ _ h' => ⟨h'.1.1, wpAnyH_add F fuel _ _ _ h'.2⟩) (h.2 i hi)⟩

section
variable {P : Program} {ops : Array Oper} {Q : Exit → Act → World → Prop} {md : Region.Mode} {S : World → Prop}
theorem op_at {i : Nat} {o : Oper} (h : ops.toList[i]? = some o) : ops[i]? = some o := by simpa using h
/-- The operation is found in the list itself. -/
theorem wpAnyH_pick (i : Nat) {oi : Oper} {v : Value} {fuel : Nat} {listed : Array Bool} {a : Act} {w : World} (hi : ops.toList[i]? = some oi)
    (hs : Region.noSelect ops = true) (hf : Region.free md ops listed i = true) (hr : (Region.ready md ops listed).contains i = true)
    (hQ : ∀ c a w, Q (.panic c) (a.put oi.dst v) w → Q (.panic c) a w) (hS : S w) (hg : Region.wanted oi (yielded ops a.tmps) = true) (hy : ∀ w, S w → (execOp a.eval oi).run P w = .ok (.value v) w)
    (h : wpAnyH P md ops Q S fuel (listed.setIfInBounds i true) (a.put oi.dst v) w) : wpAnyH P md ops Q S (fuel + 1) listed a w :=
  wpAnyH_take (op_at hi) hs hf hr hQ (.inl ⟨hg, hy⟩) hS h
/-- An operation behind a test that did not hold does nothing. -/
theorem wpAnyH_skip (i : Nat) {oi : Oper} {fuel : Nat} {listed : Array Bool} {a : Act} {w : World} (hi : ops.toList[i]? = some oi)
    (hs : Region.noSelect ops = true) (hf : Region.free md ops listed i = true) (hr : (Region.ready md ops listed).contains i = true)
    (hQ : ∀ c a w, Q (.panic c) (a.put oi.dst undef) w → Q (.panic c) a w) (hS : S w) (hg : Region.wanted oi (yielded ops a.tmps) = false)
    (h : wpAnyH P md ops Q S fuel (listed.setIfInBounds i true) (a.put oi.dst undef) w) : wpAnyH P md ops Q S (fuel + 1) listed a w :=
  wpAnyH_take (op_at hi) hs hf hr hQ (.inr ⟨hg, rfl⟩) hS h
theorem AllReadyH_pick {fuel : Nat} {listed : Array Bool} {a : Act} {w : World} {i : Nat} {o : Oper} {rs : List Nat} (ho : ops.toList[i]? = some o)
    (h : ∀ K' : Act → World → Prop, Shut (∀ a w, S w → (S w → wpAnyH P md ops Q S fuel (listed.setIfInBounds i true) a w) → K' a w) → if Region.wanted o (yielded ops a.tmps) = true then Oper.wp P o a w K' Q else K' (a.put o.dst undef) w)
    (hs : AllReadyH P md ops Q S fuel listed a w rs) : AllReadyH P md ops Q S fuel listed a w (i :: rs) := AllReadyH.cons (op_at ho) h hs
end
end Go.Proofs.Ytednjpgibbnieaa

/-
  Contracts of the document's lift: side, floor, within, Same, turned. Conditions: rows of bounded length.
-/
namespace Go.Proofs.Ytednjpgibbnieaa
open Go.RowKit

theorem rside7_any (n : Nat) (w : World) (hn : n ≤ 1000000) :
    Calls Try.prog 25 #[.int .i64 (n : Int)] w fun e w' => e = .returned (.int .i64 (sideN n : Int)) ∧ w' = w := by
  by_cases h1 : n = 16
  · subst h1
    go_enter Try.func25, Try.ntmps25
    go_wp2_with fail
    go_ret
    exact ⟨rfl, rfl⟩
  · by_cases h2 : n = 64
    · subst h2
      go_enter Try.func25, Try.ntmps25
      go_wp2_with fail
      go_ret
      exact ⟨rfl, rfl⟩
    · have e1 : ((n : Int) == 16) = false := by simp; omega
      have e2 : ((n : Int) == 64) = false := by simp; omega
      have hs : sideN n = 0 := by unfold sideN; rw [if_neg h1, if_neg h2]
      rw [hs]
      clear h1 h2 hs
      go_enter Try.func25, Try.ntmps25
      go_wp2_with fail
      go_ret
      exact ⟨rfl, rfl⟩

theorem rfloor_any (v : Int) (w : World) (h1 : -1099511627776 ≤ v) (h2 : v ≤ 1099511627776) :
    Calls Try.prog 36 #[.int .i64 v] w fun e w' => e = .returned (.int .i64 (v / 2)) ∧ w' = w := by
  by_cases h : 0 ≤ v
  · obtain ⟨n, rfl⟩ : ∃ n : Nat, v = (n : Int) := ⟨v.toNat, by omega⟩
    clear h h1
    go_enter Try.func36, Try.ntmps36
    go_wp2_with fail
    go_ret
    exact ⟨rfl, rfl⟩
  · have e1 : decide (0 ≤ v) = false := by simpa using h
    obtain ⟨m, hm⟩ : ∃ m : Nat, (m : Int) = 1 - v := ⟨(1 - v).toNat, by omega⟩
    have e2 : 1 - v = (m : Int) := hm.symm
    have w1 : IntKind.i64.wrap (m : Int) = (m : Int) := IntWalk.i64_in _ (by omega)
    obtain ⟨z, hz⟩ : ∃ z : Int, z = (m : Int) / 2 := ⟨_, rfl⟩
    have e3 : (m : Int) / 2 = z := hz.symm
    have w2 : IntKind.i64.wrap (-z) = -z := IntWalk.i64_in _ (by omega)
    have w3 : IntKind.i64.wrap z = z := IntWalk.i64_in _ (by omega)
    have hr : v / 2 = -z := by omega
    have Hr := Lib.hid hr
    clear h h1 h2 hm hz hr
    go_enter Try.func36, Try.ntmps36
    go_wp2_with fail
    go_ret
    exact ⟨by rw [Hr.out]; rfl, rfl⟩

theorem all_take (b : List Int) (i : Nat) (m : Int) (h : ∀ j, j < i → -m ≤ numAt b j ∧ numAt b j ≤ m) (hi : i = b.length) : withinB b m = true := by
  unfold withinB
  rw [List.all_eq_true]
  intro v hv
  obtain ⟨j, hj, rfl⟩ := List.getElem_of_mem hv
  have := h j (by omega)
  unfold numAt at this
  rw [List.getD_eq_getElem?_getD, List.getElem?_eq_getElem hj] at this
  simpa using this
theorem within_at {b : List Int} {m : Int} (h : withinB b m = true) {j : Nat} (hj : j < b.length) : -m ≤ numAt b j ∧ numAt b j ≤ m := by
  unfold withinB at h
  rw [List.all_eq_true] at h
  have := h b[j] (List.getElem_mem hj)
  unfold numAt
  rw [List.getD_eq_getElem?_getD, List.getElem?_eq_getElem hj]
  simpa using this

theorem rwithin_any (A : Option Addr) (c : Nat) (b : List Int) (m : Int) (w : World) (hs : Src w (.slice A b.length c) (b.map I64)) (hb : b.length ≤ 1000000) (hm : 0 ≤ m) (hm2 : m ≤ 1099511627776) :
    Calls Try.prog 26 #[.slice A b.length c, .int .i64 m] w fun e w' => e = .returned (.bool (withinB b m)) ∧ w' = w := by
  obtain ⟨n, hn⟩ : ∃ n, n = b.length := ⟨_, rfl⟩
  have HS := Lib.hid hs; have Hn := Lib.hid hn
  rw [← hn] at hb ⊢
  have wm : IntKind.i64.wrap (-m) = -m := IntWalk.i64_in _ (by omega)
  obtain ⟨R, hR⟩ : ∃ R, R = withinB b m := ⟨_, rfl⟩
  rw [← hR]
  have HR := Lib.hid hR
  clear hs hn hR
  go_enter Try.func26, Try.ntmps26
  go_wp2_with fail
  go_loopw [5] (fun s5 wr => ∃ i : Nat, i ≤ n ∧ s5 = .int .i64 (i : Int) ∧ wr = w ∧ ∀ j, j < i → -m ≤ numAt b j ∧ numAt b j ≤ m) (fun s5 _ => n - (intOf s5).toNat)
  case atStart => exact ⟨0, by omega, rfl, rfl, by omega⟩
  case round =>
    obtain ⟨i, hi, rfl, rfl, hall⟩ := hrel
    have Hall := Lib.hid hall
    clear hall
    by_cases hlt : i < n
    · obtain ⟨ad, rfl, cx⟩ := HS.out.num (k := i) (by have := Hn.out; omega)
      obtain ⟨v, hv⟩ : ∃ v, v = b.getD i 0 := ⟨_, rfl⟩
      rw [← hv] at cx
      have Hv := Lib.hid hv
      have hfalse : ¬ (-m ≤ v ∧ v ≤ m) → withinB b m = false := by
        intro h
        cases hw : withinB b m
        · rfl
        · exfalso
          have := within_at hw (j := i) (by have := Hn.out; omega)
          unfold numAt at this
          rw [← hv] at this
          exact h this
      have Hfalse := Lib.hid hfalse
      clear hv hfalse
      have eg : decide (i < n) = true := by simpa using hlt
      by_cases h1 : v < -m
      · have e1 : decide (v < -m) = true := by simpa using h1
        have Hf := Lib.hid (Hfalse.out (by omega))
        go_wp2_with fail
        go_ret
        exact ⟨by rw [HR.out, Hf.out]; rfl, rfl⟩
      · have e1 : decide (v < -m) = false := by simpa using h1
        by_cases h2 : m < v
        · have e2 : decide (m < v) = true := by simpa using h2
          have Hf := Lib.hid (Hfalse.out (by omega))
          go_wp2_with fail
          go_ret
          exact ⟨by rw [HR.out, Hf.out]; rfl, rfl⟩
        · have e2 : decide (m < v) = false := by simpa using h2
          go_wp2_with fail
          refine ⟨⟨i + 1, by omega, by simp, trivial, fun j hj => ?_⟩, by simp [intOf]; omega⟩
          by_cases hji : j = i
          · subst hji
            unfold numAt
            rw [← Hv.out]
            omega
          · exact Hall.out j (by omega)
    · have eg : decide (i < n) = false := by simpa using hlt
      have hin : withinB b m = true := all_take b i m Hall.out (by have := Hn.out; omega)
      have Hin := Lib.hid hin
      clear hin
      go_wp2_with fail
      go_ret
      exact ⟨by rw [HR.out, Hin.out]; rfl, rfl⟩

theorem rsame7_any (A : Option Addr) (c : Nat) (a : List Int) (B : Option Addr) (d : Nat) (b : List Int) (w : World) (hs : Src w (.slice A a.length c) (a.map I64)) (ht : Src w (.slice B b.length d) (b.map I64)) (ha : a.length ≤ 1000000) (hb : b.length ≤ 1000000) :
    Calls Try.prog 12 #[.slice A a.length c, .slice B b.length d] w fun e w' => e = .returned (.bool (decide (a = b))) ∧ Fr [] w w' := by
  obtain ⟨n, hn⟩ : ∃ n, n = a.length := ⟨_, rfl⟩
  obtain ⟨m, hm⟩ : ∃ m, m = b.length := ⟨_, rfl⟩
  have HS := Lib.hid hs; have HT := Lib.hid ht; have Hn := Lib.hid hn; have Hm := Lib.hid hm
  rw [← hn] at ha ⊢
  rw [← hm] at hb ⊢
  obtain ⟨R, hR⟩ : ∃ R, R = decide (a = b) := ⟨_, rfl⟩
  rw [← hR]
  have HR := Lib.hid hR
  clear hs ht hn hm hR
  by_cases hl : n = m
  · subst hl
    have t1 : ((n : Int) != (n : Int)) = false := by simp
    go_enter Try.func12, Try.ntmps12
    go_wp2_with fail
    go_loopw [5] (fun s5 wr => ∃ i : Nat, i ≤ n ∧ s5 = .int .i64 (i : Int) ∧ Fr [] w wr ∧ ∀ j, j < i → numAt a j = numAt b j) (fun s5 _ => n - (intOf s5).toNat)
    case atStart => exact ⟨0, by omega, rfl, Fr.refl _ _, by omega⟩
    case round =>
      obtain ⟨i, hi, rfl, hF, hall⟩ := hrel
      have Hall := Lib.hid hall
      by_cases hlt : i < n
      · obtain ⟨ad, rfl, cx⟩ := (HS.out.fr0 hF).num (k := i) (by have := Hn.out; omega)
        obtain ⟨bd, rfl, cy⟩ := (HT.out.fr0 hF).num (k := i) (by have := Hm.out; omega)
        obtain ⟨u, hu⟩ : ∃ u, u = a.getD i 0 := ⟨_, rfl⟩
        obtain ⟨v, hv⟩ : ∃ v, v = b.getD i 0 := ⟨_, rfl⟩
        rw [← hu] at cx
        rw [← hv] at cy
        have Hu := Lib.hid hu; have Hv := Lib.hid hv; have HF := Lib.hid hF
        have eg : decide (i < n) = true := by simpa using hlt
        clear hu hv hF hall
        by_cases huv : u = v
        · have t2 : (u != v) = false := by simpa using huv
          have Huv := Lib.hid huv
          clear huv
          go_upto_region 6 with fail
          go_quiet (fail)
          have HF2 := Lib.hid (HF.out.drewN nq)
          go_wp2_with fail
          refine ⟨⟨i + 1, by omega, by simp, HF2.out, fun j hj => ?_⟩, by simp [intOf]; omega⟩
          by_cases hji : j = i
          · subst hji
            unfold numAt
            rw [← Hu.out, ← Hv.out, Huv.out]
          · exact Hall.out j (by omega)
        · have t2 : (u != v) = true := by simpa using huv
          have hr : R = false := by
            rw [HR.out]
            simp only [decide_eq_false_iff_not]
            rintro rfl
            exact huv (Hu.out.trans Hv.out.symm)
          have Hr := Lib.hid hr
          clear huv hr
          go_upto_region 6 with fail
          go_quiet (fail)
          have HF2 := Lib.hid (HF.out.drewN nq)
          go_wp2_with fail
          go_ret
          exact ⟨by rw [Hr.out]; rfl, HF2.out⟩
      · have eg : decide (i < n) = false := by simpa using hlt
        have hr : R = true := by
          rw [HR.out]
          simp only [decide_eq_true_eq]
          exact num_ext (by rw [← Hn.out, ← Hm.out]) fun j hj => hall j (by have := Hn.out; omega)
        have Hr := Lib.hid hr; have HF := Lib.hid hF
        clear hr hF hall
        go_wp2_with fail
        go_ret
        exact ⟨by rw [Hr.out]; rfl, HF.out⟩
  · have t1 : ((n : Int) != (m : Int)) = true := by simp; omega
    have hr : R = false := by
      rw [HR.out]
      simp only [decide_eq_false_iff_not]
      rintro rfl
      exact hl (Hn.out.trans Hm.out.symm)
    have Hr := Lib.hid hr
    clear hl hr
    go_enter Try.func12, Try.ntmps12
    go_wp2_with fail
    go_ret
    exact ⟨by rw [Hr.out]; rfl, Fr.refl _ _⟩
end Go.Proofs.Ytednjpgibbnieaa

/-
  Contracts of the document's lift: turned. Conditions: blocks of bounded length.
-/
namespace Go.Proofs.Ytednjpgibbnieaa
open Go.RowKit

theorem rturned_any (A : Option Addr) (c : Nat) (b : List Int) (n : Nat) (w : World) (hs : Src w (.slice A b.length c) (b.map I64)) (hb : b.length = n * n) (hn : n ≤ 100) :
    Calls Try.prog 28 #[.slice A b.length c, .int .i64 (n : Int)] w (NumsPost w (turnL n b)) := by
  obtain ⟨bl, hbl⟩ : ∃ bl, bl = b.length := ⟨_, rfl⟩
  have HS := Lib.hid hs; have Hb := Lib.hid hb; have Hbl := Lib.hid hbl
  rw [← hbl]
  clear hs hb hbl
  go_enter Try.func28, Try.ntmps28
  go_wp2_with fail
  go_loopw [5, 6] (fun s5 s6 wr => ∃ (x : Nat) (B : Option Addr) (d : Nat), x ≤ n ∧ s6 = .int .i64 (x : Int) ∧ s5 = .slice B (x * n) d ∧ MineN w wr (.slice B (x * n) d) (turnTo n b (x * n))) (fun _ s6 _ => n - (intOf s6).toNat)
  case atStart => exact ⟨0, none, 0, by omega, rfl, by rw [Nat.zero_mul], by rw [Nat.zero_mul]; exact MineN.nil (Fr.refl _ _)⟩
  case round =>
    obtain ⟨x, B, d, hx, rfl, rfl, hM⟩ := hrel
    have HM := Lib.hid hM
    clear hM
    by_cases hlt : x < n
    · have eg : decide (x < n) = true := by simpa using hlt
      obtain ⟨XN, hXN⟩ : ∃ XN, XN = x * n := ⟨_, rfl⟩
      rw [← hXN] at HM ⊢
      have HXN := Lib.hid hXN
      clear hXN
      go_wp2_with fail
      go_loopw [5, 7] (fun s5 s7 wr => ∃ (y : Nat) (B : Option Addr) (d : Nat), y ≤ n ∧ s7 = .int .i64 (y : Int) ∧ s5 = .slice B (XN + y) d ∧ MineN w wr (.slice B (XN + y) d) (turnTo n b (XN + y))) (fun _ s7 _ => n - (intOf s7).toNat)
      case atStart => exact ⟨0, B, d, by omega, rfl, rfl, HM.out⟩
      case round =>
        clear HM
        obtain ⟨y, B, d, hy, rfl, rfl, hM⟩ := hrel
        by_cases hlt2 : y < n
        · have eg2 : decide (y < n) = true := by simpa using hlt2
          obtain ⟨YN, hYN⟩ : ∃ YN, YN = y * n := ⟨_, rfl⟩
          obtain ⟨K, hK⟩ : ∃ K, K = YN + x := ⟨_, rfl⟩
          have hKl : K < b.length := by rw [hK, hYN, Hb.out]; exact cell_of hlt hlt2
          have hnn : n * n ≤ 10000 := Nat.mul_le_mul hn hn
          have hYNl : YN ≤ 10000 := by rw [hYN]; exact Nat.le_trans (Nat.mul_le_mul_right _ hy) hnn
          have eYN : (y : Int) * (n : Int) = (YN : Int) := by rw [hYN]; simp
          have eK : (YN : Int) + (x : Int) = (K : Int) := by rw [hK]; simp
          have wYN : IntKind.i64.wrap (YN : Int) = (YN : Int) := IntWalk.i64_in _ (by omega)
          have wK : IntKind.i64.wrap (K : Int) = (K : Int) := IntWalk.i64_in _ (by omega)
          obtain ⟨ad, rfl, cx⟩ := (HS.out.fr0 hM.fr).num hKl
          obtain ⟨v, hv⟩ : ∃ v, v = b.getD K 0 := ⟨_, rfl⟩
          rw [← hv] at cx
          have hKbl : K < bl := by have := Hbl.out; omega
          have hsucc : turnTo n b (XN + y) ++ [v] = turnTo n b (XN + (y + 1)) := by
            rw [HXN.out, hv, hK, hYN]
            exact (turnTo_succ b hlt2).symm
          have hlen : (turnTo n b (XN + y)).length = XN + y := turnTo_length _ _ _
          have hXNl : XN ≤ 10000 := by rw [HXN.out]; exact Nat.le_trans (Nat.mul_le_mul_right _ hx) hnn
          have HM := Lib.hid hM; have Hsucc := Lib.hid hsucc; have Hlen := Lib.hid hlen
          clear hM hsucc hlen hv hK hYN hKl hnn
          go_wp2_with (at_builtin; refine wp_append_num _ _ (.slice B (XN + y) d) (turnTo n b (XN + y)) (.slice (some ⟨wr.heap.size, 0, none⟩) 1 1) [v] rfl rfl rfl rfl (HM.out.own.alloc _) (Src.one (by simp [go_sem]; rfl)) (by rw [Hlen.out]; simp; omega) ?_)
          intro B2 d2 w2 hO hG
          have hM2 := MineN.appended (ms := [v]) (HM.out.fr0 ((Fr.refl _ _).alloc (.cells #[.int .i64 v] 3))) (by rw [List.map_append]; exact hO) hG
          rw [Hsucc.out] at hM2
          rw [Hlen.out] at hM2 ⊢
          have HM2 := Lib.hid hM2
          clear hO hG hM2
          go_wp2_with fail
          exact ⟨⟨y + 1, B2, d2, by omega, by simp, rfl, HM2.out⟩, by simp [intOf]; omega⟩
        · have eg2 : decide (y < n) = false := by simpa using hlt2
          have hyn : XN + y = (x + 1) * n := by rw [Nat.add_mul, Nat.one_mul, ← HXN.out]; omega
          rw [hyn] at hM ⊢
          have HM := Lib.hid hM
          clear hM hyn
          go_wp2_with fail
          exact ⟨⟨x + 1, B, d, by omega, by simp, rfl, HM.out⟩, by simp [intOf]; omega⟩
    · have eg : decide (x < n) = false := by simpa using hlt
      have hxn : x = n := by omega
      subst hxn
      have hlen := turnL_length x b
      go_wp2_with fail
      go_ret
      refine ⟨B, d, by rw [hlen]; rfl, ?_, HM.out.fr⟩
      rw [hlen]
      exact HM.out.src
end Go.Proofs.Ytednjpgibbnieaa

/-
  Contracts of the document's lift: Row. Conditions: rows of 2^k numbers, k at most 4; numbers within 2^38.
-/
namespace Go.Proofs.Ytednjpgibbnieaa
open Go.RowKit

theorem lowsL_length (l : List Int) (m : Nat) : (lowsL l m).length = m := by simp [lowsL]
theorem highsL_length (l : List Int) (m : Nat) : (highsL l m).length = m := by simp [highsL]
theorem lowsL_succ (l : List Int) (m : Nat) : lowsL l (m + 1) = lowsL l m ++ [(numAt l (2 * m) + numAt l (2 * m + 1)) / 2] := by
  unfold lowsL
  rw [List.range_succ, List.map_append]
  rfl
theorem highsL_succ (l : List Int) (m : Nat) : highsL l (m + 1) = highsL l m ++ [numAt l (2 * m) - numAt l (2 * m + 1)] := by
  unfold highsL
  rw [List.range_succ, List.map_append]
  rfl
theorem lowsL_at {l : List Int} {m j : Nat} (h : j < m) : numAt (lowsL l m) j = (numAt l (2 * j) + numAt l (2 * j + 1)) / 2 := numAt_map h

/-- Two rows of a call's own, apart. -/
structure TwoN (w0 w : World) (v u : Value) (ns ms : List Int) : Prop where
  a : MineN w0 w v ns
  b : MineN w0 w u ms
  ne : ∀ k, v.ownBlock = some k → u.ownBlock ≠ some k
theorem TwoN.fr0 {w0 w w' : World} {v u : Value} {ns ms : List Int} (h : TwoN w0 w v u ns ms) (hf : Fr [] w w') : TwoN w0 w' v u ns ms := ⟨h.a.fr0 hf, h.b.fr0 hf, h.ne⟩
theorem TwoN.first {w0 w w' : World} {v v' u : Value} {ns ms xs : List Int} (h : TwoN w0 w v u ns ms) (hO : Own w' 3 v' ((ns ++ xs).map I64)) (hG : Own1 v v' w w') : TwoN w0 w' v' u (ns ++ xs) ms := by
  refine ⟨h.a.appended hO hG, h.b.beside hG (fun k hk hv => h.ne k hv hk) h.a.new, fun k hk hu => ?_⟩
  rcases hG.2 with e | ⟨g, e, hg⟩
  · rw [e] at hk; exact h.ne k hk hu
  · rw [e] at hk
    injection hk with hk
    subst hk
    have := h.b.own.lt g hu
    omega
theorem TwoN.second {w0 w w' : World} {v u u' : Value} {ns ms xs : List Int} (h : TwoN w0 w v u ns ms) (hO : Own w' 3 u' ((ms ++ xs).map I64)) (hG : Own1 u u' w w') : TwoN w0 w' v u' ns (ms ++ xs) := by
  refine ⟨h.a.beside hG (fun k hk hu => h.ne k hk hu) h.b.new, h.b.appended hO hG, fun k hk hu => ?_⟩
  rcases hG.2 with e | ⟨g, e, hg⟩
  · rw [e] at hu; exact h.ne k hk hu
  · rw [e] at hu
    injection hu with hu
    subst hu
    have := h.a.own.lt g hk
    omega

set_option maxRecDepth 20000 in
set_option maxHeartbeats 8000000 in
theorem rrow7_any : ∀ (k : Nat) (A : Option Addr) (c : Nat) (l : List Int) (m : Int) (w : World), Src w (.slice A l.length c) (l.map I64) → l.length = 2 ^ k → k ≤ 4 → 0 ≤ m → m ≤ 274877906944 → (∀ j, j < 2 ^ k → -m ≤ numAt l j ∧ numAt l j ≤ m) →
    Calls Try.prog 33 #[.slice A l.length c] w (NumsPost w (rowL k l))
  | 0, A, c, l, m, w, hs, hl, _, _, _, _ => by
    rw [rowL_zero hl, hl]
    have HS := Lib.hid hs
    clear hs
    go_enter Try.func33, Try.ntmps33
    go_wp2_with fail
    go_ret
    refine ⟨A, c, by rw [hl]; rfl, HS.out, Fr.refl _ _⟩
  | k + 1, A, c, l, m, w, hs, hl, hk, hm, hm2, hb => by
    have IH := Lib.hid (rrow7_any k)
    obtain ⟨P, hP⟩ : ∃ P, P = 2 ^ k := ⟨_, rfl⟩
    have hP8 : P ≤ 8 := by rw [hP]; exact Nat.pow_le_pow_right (n := 2) (i := k) (j := 3) (by omega) (by omega)
    have hP1 : 1 ≤ P := by rw [hP]; exact Nat.one_le_two_pow
    have hl2 : l.length = 2 * P := by rw [hl, hP, Nat.pow_succ, Nat.mul_comm]
    rw [rowL_succ, ← hP]
    rw [Nat.pow_succ, Nat.mul_comm, ← hP] at hb
    have hlowB : ∀ j, j < P → -m ≤ numAt (lowsL l P) j ∧ numAt (lowsL l P) j ≤ m := by
      intro j hj
      rw [lowsL_at hj]
      have a := hb (2 * j) (by omega)
      have b := hb (2 * j + 1) (by omega)
      omega
    have HS := Lib.hid hs; have Hl := Lib.hid hl2; have HP := Lib.hid hP; have Hb := Lib.hid hb; have HlowB := Lib.hid hlowB
    obtain ⟨n, hn⟩ : ∃ n, n = l.length := ⟨_, rfl⟩
    have hn2 : n = 2 * P := by rw [hn, hl2]
    have t1 : decide ((n : Int) < 2) = false := by simp; omega
    have Hn := Lib.hid hn; have Hn2 := Lib.hid hn2
    rw [← hn]
    clear hs hl hl2 hP hb hlowB hn hn2
    go_enter Try.func33, Try.ntmps33
    go_wp2_with fail
    go_loopw [3, 4, 5] (fun s3 s4 s5 wr => ∃ (j : Nat) (A3 : Option Addr) (d3 : Nat) (A4 : Option Addr) (d4 : Nat), j ≤ P ∧ s5 = .int .i64 ((2 * j : Nat) : Int) ∧ s3 = .slice A3 j d3 ∧ s4 = .slice A4 j d4 ∧ TwoN w wr (.slice A3 j d3) (.slice A4 j d4) (lowsL l j) (highsL l j)) (fun _ _ s5 _ => 2 * P - (intOf s5).toNat)
    case atStart => exact ⟨0, none, 0, none, 0, by omega, rfl, rfl, rfl, MineN.nil (Fr.refl _ _), MineN.nil (Fr.refl _ _), by simp [Value.ownBlock]⟩
    case round =>
      obtain ⟨j, A3, d3, A4, d4, hj, rfl, rfl, rfl, hT⟩ := hrel
      obtain ⟨J, hJ⟩ : ∃ J, J = 2 * j := ⟨_, rfl⟩
      rw [← hJ]
      have HJ := Lib.hid hJ
      by_cases hlt : j < P
      · have eg : decide (J < n) = true := by have := Hn2.out; simp; omega
        have hJl : J < l.length := by have := Hl.out; omega
        have hJl1 : J + 1 < l.length := by have := Hl.out; omega
        obtain ⟨ad, rfl, -⟩ := (HS.out.fr0 hT.a.fr.drew).num hJl
        have hcell := fun W (hf : Fr [] w W) => And.intro ((HS.out.fr0 hf).numS hJl) ((HS.out.fr0 hf).numS hJl1)
        have hbu := Hb.out J (by omega)
        have hbv := Hb.out (J + 1) (by omega)
        unfold numAt at hbu hbv
        obtain ⟨u, hu⟩ : ∃ u, u = l.getD J 0 := ⟨_, rfl⟩
        obtain ⟨v, hv⟩ : ∃ v, v = l.getD (J + 1) 0 := ⟨_, rfl⟩
        rw [← hu] at hcell hbu
        rw [← hv] at hcell hbv
        have hlow : lowsL l (j + 1) = lowsL l j ++ [(u + v) / 2] := by rw [lowsL_succ, ← hJ, hu, hv]; rfl
        have hhigh : highsL l (j + 1) = highsL l j ++ [u - v] := by rw [highsL_succ, ← hJ, hu, hv]; rfl
        have hl1 := lowsL_length l j
        have hl2 := highsL_length l j
        have Hlow := Lib.hid hlow; have Hhigh := Lib.hid hhigh; have Hl1 := Lib.hid hl1; have Hl2 := Lib.hid hl2
        have HT := Lib.hid (hT.fr0 (Fr.refl [] wr).drew)
        have wuv : IntKind.i64.wrap (u + v) = u + v := IntWalk.i64_in _ (by omega)
        have wuw : IntKind.i64.wrap (u - v) = u - v := IntWalk.i64_in _ (by omega)
        have HFl := Lib.hid fun w => rfloor_any (u + v) w (by omega) (by omega)
        obtain ⟨Z, hZ⟩ : ∃ Z, Z = (u + v) / 2 := ⟨_, rfl⟩
        rw [← hZ] at HFl Hlow
        obtain ⟨J1, hJ1⟩ : ∃ J1, J1 = J + 1 := ⟨_, rfl⟩
        rw [← hJ1] at hcell
        have eJ1 : (J : Int) + 1 = (J1 : Int) := by omega
        have wJ1 : IntKind.i64.wrap (J1 : Int) = (J1 : Int) := IntWalk.i64_in _ (by omega)
        have wJ2 : IntKind.i64.wrap ((J : Int) + 2) = (J : Int) + 2 := IntWalk.i64_in _ (by omega)
        have hJn : J < n := by have := Hn2.out; omega
        have hJ1n : J1 < n := by have := Hn2.out; omega
        have Hcell := Lib.hid hcell
        have c0 := hcell _ HT.out.a.fr
        clear hcell
        clear hJ hJ1 hu hv hlow hhigh hl1 hl2 hT hZ hJl hJl1
        go_upto_region 7 with fail
        refine wp_region_held_drew (S := fun W' => W'.cell? (ad.add J) = some (.int .i64 u) ∧ W'.cell? (ad.add J1) = some (.int .i64 v)) (by kernel_rfl) ?_ (fun hHeld => ?_)
        · (first | exact p0 | exact m0 | exact c0)
        refine wpAnyH_pick 0 (v := ?_) rfl (by kernel_rfl) (by kernel_rfl) (by kernel_rfl) (fun _ _ _ h => h) (by assumption) (by rfl) ?_ ?_
        rotate_left
        · (intro w hSw; (try dsimp only at hSw); go_simp) <;> (with_reducible rfl)
        (try simp only [Act.put, List.setIfInBounds_toArray, List.set_cons_zero, List.set_cons_succ])
        refine wpAnyH_pick 1 (v := ?_) rfl (by kernel_rfl) (by kernel_rfl) (by kernel_rfl) (fun _ _ _ h => h) (by assumption) (by rfl) ?_ ?_
        rotate_left
        · (intro w hSw; (try dsimp only at hSw); go_simp) <;> (with_reducible rfl)
        (try simp only [Act.put, List.setIfInBounds_toArray, List.set_cons_zero, List.set_cons_succ])
        refine wpAnyH_pick 2 (v := ?_) rfl (by kernel_rfl) (by kernel_rfl) (by kernel_rfl) (fun _ _ _ h => h) (by assumption) (by rfl) ?_ ?_
        rotate_left
        · (intro w hSw; (try dsimp only at hSw); go_simp) <;> (with_reducible rfl)
        (try simp only [Act.put, List.setIfInBounds_toArray, List.set_cons_zero, List.set_cons_succ])
        refine wpAnyH_pick 3 (v := ?_) rfl (by kernel_rfl) (by kernel_rfl) (by kernel_rfl) (fun _ _ _ h => h) (by assumption) (by rfl) ?_ ?_
        rotate_left
        · (intro w hSw; (try dsimp only at hSw); go_simp) <;> (with_reducible rfl)
        (try simp only [Act.put, List.setIfInBounds_toArray, List.set_cons_zero, List.set_cons_succ])
        refine wpAnyH_pick 4 (v := ?_) rfl (by kernel_rfl) (by kernel_rfl) (by kernel_rfl) (fun _ _ _ h => h) (by assumption) (by rfl) ?_ ?_
        rotate_left
        · (intro w hSw; (try dsimp only at hSw); go_simp) <;> (with_reducible rfl)
        (try simp only [Act.put, List.setIfInBounds_toArray, List.set_cons_zero, List.set_cons_succ])
        refine wpAnyH_pick 5 (v := ?_) rfl (by kernel_rfl) (by kernel_rfl) (by kernel_rfl) (fun _ _ _ h => h) (by assumption) (by rfl) ?_ ?_
        rotate_left
        · (intro w hSw; (try dsimp only at hSw); go_simp) <;> (with_reducible rfl)
        (try simp only [Act.put, List.setIfInBounds_toArray, List.set_cons_zero, List.set_cons_succ])
        refine wpAnyH_pick 6 (v := ?_) rfl (by kernel_rfl) (by kernel_rfl) (by kernel_rfl) (fun _ _ _ h => h) (by assumption) (by rfl) ?_ ?_
        rotate_left
        · (intro w hSw; (try dsimp only at hSw); go_simp) <;> (with_reducible rfl)
        (try simp only [Act.put, List.setIfInBounds_toArray, List.set_cons_zero, List.set_cons_succ])
        refine wpAnyH_pick 7 (v := ?_) rfl (by kernel_rfl) (by kernel_rfl) (by kernel_rfl) (fun _ _ _ h => h) (by assumption) (by rfl) ?_ ?_
        rotate_left
        · (intro w hSw; (try dsimp only at hSw); go_simp) <;> (with_reducible rfl)
        (try simp only [Act.put, List.setIfInBounds_toArray, List.set_cons_zero, List.set_cons_succ])
        refine wpAnyH_pick 8 (v := ?_) rfl (by kernel_rfl) (by kernel_rfl) (by kernel_rfl) (fun _ _ _ h => h) (by assumption) (by rfl) ?_ ?_
        rotate_left
        · (intro w hSw; (try dsimp only at hSw); go_simp) <;> (with_reducible rfl)
        (try simp only [Act.put, List.setIfInBounds_toArray, List.set_cons_zero, List.set_cons_succ])
        refine wpAnyH_pick 9 (v := ?_) rfl (by kernel_rfl) (by kernel_rfl) (by kernel_rfl) (fun _ _ _ h => h) (by assumption) (by rfl) ?_ ?_
        rotate_left
        · (intro w hSw; (try dsimp only at hSw); go_simp) <;> (with_reducible rfl)
        (try simp only [Act.put, List.setIfInBounds_toArray, List.set_cons_zero, List.set_cons_succ])
        refine wpAnyH_pick 10 (v := ?_) rfl (by kernel_rfl) (by kernel_rfl) (by kernel_rfl) (fun _ _ _ h => h) (by assumption) (by rfl) ?_ ?_
        rotate_left
        · (intro w hSw; (try dsimp only at hSw); go_simp) <;> (with_reducible rfl)
        (try simp only [Act.put, List.setIfInBounds_toArray, List.set_cons_zero, List.set_cons_succ])
        refine wpAnyH_ready (rs := [11]) (by kernel_rfl) (by simp) ?_
        refine AllReadyH_pick rfl (fun K hK => ?_) (AllReadyH.nil)
        go_simp
        refine (HFl.out _).mono ?_
        rintro e w4 ⟨rfl, rfl⟩
        go_wp2_with fail
        refine hK.out _ _ ?_ (fun hHeld => ?_)
        · (first | exact p0 | exact m0 | exact c0)
        clear hK K
        (try simp only [Act.put, List.setIfInBounds_toArray, List.set_cons_zero, List.set_cons_succ])
        refine wpAnyH_ready (rs := [12]) (by kernel_rfl) (by simp) ?_
        refine AllReadyH_pick rfl (fun K hK => ?_) (AllReadyH.nil)
        have m0 := Hcell.out _ (HT.out.a.fr.alloc (.cells #[.int .i64 Z] 3))
        go_simp
        refine hK.out _ _ ?_ (fun hHeld => ?_)
        · (first | exact p0 | exact m0 | exact c0)
        clear hK K
        (try simp only [Act.put, List.setIfInBounds_toArray, List.set_cons_zero, List.set_cons_succ])
        refine wpAnyH_ready (rs := [13]) (by kernel_rfl) (by simp) ?_
        refine AllReadyH_pick rfl (fun K hK => ?_) (AllReadyH.nil)
        refine step_append_num (.tmp 16) (.tmp 28) (.slice A3 j d3) (lowsL l j) (.slice (some ⟨wr.heap.size, 0, none⟩) 1 1) [Z] rfl rfl rfl rfl (HT.out.a.own.alloc _) (Src.one (by simp [go_sem]; rfl)) (by rw [Hl1.out]; simp; omega) ?_
        intro A5 d5 w5 hO hG
        have hT5 := TwoN.first (xs := [Z]) (HT.out.fr0 ((Fr.refl [] wr.drew).alloc (.cells #[.int .i64 Z] 3))) hO hG
        rw [← Hlow.out] at hT5
        rw [Hl1.out] at hT5 ⊢
        have HT5 := Lib.hid hT5
        have p0 := Hcell.out _ hT5.a.fr
        clear hO hG hT5
        refine hK.out _ _ ?_ (fun hHeld => ?_)
        · (first | exact p0 | exact m0 | exact c0)
        clear hK K
        (try simp only [Act.put, List.setIfInBounds_toArray, List.set_cons_zero, List.set_cons_succ])
        refine wpAnyH_pick 14 (v := ?_) rfl (by kernel_rfl) (by kernel_rfl) (by kernel_rfl) (fun _ _ _ h => h) (by assumption) (by rfl) ?_ ?_
        rotate_left
        · (intro w hSw; (try dsimp only at hSw); go_simp) <;> (with_reducible rfl)
        (try simp only [Act.put, List.setIfInBounds_toArray, List.set_cons_zero, List.set_cons_succ])
        refine wpAnyH_done (by kernel_rfl) ?_ _
        skip
        have HT6 := Lib.hid (HT5.out.fr0 (Fr.refl [] w5).drew)
        have c1 := Hcell.out _ HT6.out.a.fr
        clear p0 m0 c0 HT5 HT
        go_upto_region 8 with fail
        refine wp_region_held_drew (S := fun W' => W'.cell? (ad.add J) = some (.int .i64 u) ∧ W'.cell? (ad.add J1) = some (.int .i64 v)) (by kernel_rfl) ?_ (fun hHeld => ?_)
        · (first | exact p1 | exact m1 | exact c1)
        refine wpAnyH_pick 0 (v := ?_) rfl (by kernel_rfl) (by kernel_rfl) (by kernel_rfl) (fun _ _ _ h => h) (by assumption) (by rfl) ?_ ?_
        rotate_left
        · (intro w hSw; (try dsimp only at hSw); go_simp) <;> (with_reducible rfl)
        (try simp only [Act.put, List.setIfInBounds_toArray, List.set_cons_zero, List.set_cons_succ])
        refine wpAnyH_pick 1 (v := ?_) rfl (by kernel_rfl) (by kernel_rfl) (by kernel_rfl) (fun _ _ _ h => h) (by assumption) (by rfl) ?_ ?_
        rotate_left
        · (intro w hSw; (try dsimp only at hSw); go_simp) <;> (with_reducible rfl)
        (try simp only [Act.put, List.setIfInBounds_toArray, List.set_cons_zero, List.set_cons_succ])
        refine wpAnyH_pick 2 (v := ?_) rfl (by kernel_rfl) (by kernel_rfl) (by kernel_rfl) (fun _ _ _ h => h) (by assumption) (by rfl) ?_ ?_
        rotate_left
        · (intro w hSw; (try dsimp only at hSw); go_simp) <;> (with_reducible rfl)
        (try simp only [Act.put, List.setIfInBounds_toArray, List.set_cons_zero, List.set_cons_succ])
        refine wpAnyH_pick 3 (v := ?_) rfl (by kernel_rfl) (by kernel_rfl) (by kernel_rfl) (fun _ _ _ h => h) (by assumption) (by rfl) ?_ ?_
        rotate_left
        · (intro w hSw; (try dsimp only at hSw); go_simp) <;> (with_reducible rfl)
        (try simp only [Act.put, List.setIfInBounds_toArray, List.set_cons_zero, List.set_cons_succ])
        refine wpAnyH_pick 4 (v := ?_) rfl (by kernel_rfl) (by kernel_rfl) (by kernel_rfl) (fun _ _ _ h => h) (by assumption) (by rfl) ?_ ?_
        rotate_left
        · (intro w hSw; (try dsimp only at hSw); go_simp) <;> (with_reducible rfl)
        (try simp only [Act.put, List.setIfInBounds_toArray, List.set_cons_zero, List.set_cons_succ])
        refine wpAnyH_pick 5 (v := ?_) rfl (by kernel_rfl) (by kernel_rfl) (by kernel_rfl) (fun _ _ _ h => h) (by assumption) (by rfl) ?_ ?_
        rotate_left
        · (intro w hSw; (try dsimp only at hSw); go_simp) <;> (with_reducible rfl)
        (try simp only [Act.put, List.setIfInBounds_toArray, List.set_cons_zero, List.set_cons_succ])
        refine wpAnyH_pick 6 (v := ?_) rfl (by kernel_rfl) (by kernel_rfl) (by kernel_rfl) (fun _ _ _ h => h) (by assumption) (by rfl) ?_ ?_
        rotate_left
        · (intro w hSw; (try dsimp only at hSw); go_simp) <;> (with_reducible rfl)
        (try simp only [Act.put, List.setIfInBounds_toArray, List.set_cons_zero, List.set_cons_succ])
        refine wpAnyH_pick 7 (v := ?_) rfl (by kernel_rfl) (by kernel_rfl) (by kernel_rfl) (fun _ _ _ h => h) (by assumption) (by rfl) ?_ ?_
        rotate_left
        · (intro w hSw; (try dsimp only at hSw); go_simp) <;> (with_reducible rfl)
        (try simp only [Act.put, List.setIfInBounds_toArray, List.set_cons_zero, List.set_cons_succ])
        refine wpAnyH_pick 8 (v := ?_) rfl (by kernel_rfl) (by kernel_rfl) (by kernel_rfl) (fun _ _ _ h => h) (by assumption) (by rfl) ?_ ?_
        rotate_left
        · (intro w hSw; (try dsimp only at hSw); go_simp) <;> (with_reducible rfl)
        (try simp only [Act.put, List.setIfInBounds_toArray, List.set_cons_zero, List.set_cons_succ])
        refine wpAnyH_pick 9 (v := ?_) rfl (by kernel_rfl) (by kernel_rfl) (by kernel_rfl) (fun _ _ _ h => h) (by assumption) (by rfl) ?_ ?_
        rotate_left
        · (intro w hSw; (try dsimp only at hSw); go_simp) <;> (with_reducible rfl)
        (try simp only [Act.put, List.setIfInBounds_toArray, List.set_cons_zero, List.set_cons_succ])
        refine wpAnyH_pick 10 (v := ?_) rfl (by kernel_rfl) (by kernel_rfl) (by kernel_rfl) (fun _ _ _ h => h) (by assumption) (by rfl) ?_ ?_
        rotate_left
        · (intro w hSw; (try dsimp only at hSw); go_simp) <;> (with_reducible rfl)
        (try simp only [Act.put, List.setIfInBounds_toArray, List.set_cons_zero, List.set_cons_succ])
        refine wpAnyH_ready (rs := [11]) (by kernel_rfl) (by simp) ?_
        refine AllReadyH_pick rfl (fun K hK => ?_) (AllReadyH.nil)
        have m1 := Hcell.out _ (HT6.out.a.fr.alloc (.cells #[.int .i64 (u - v)] 3))
        go_simp
        refine hK.out _ _ ?_ (fun hHeld => ?_)
        · (first | exact p1 | exact m1 | exact c1)
        clear hK K
        (try simp only [Act.put, List.setIfInBounds_toArray, List.set_cons_zero, List.set_cons_succ])
        refine wpAnyH_ready (rs := [12]) (by kernel_rfl) (by simp) ?_
        refine AllReadyH_pick rfl (fun K hK => ?_) (AllReadyH.nil)
        refine step_append_num (.tmp 30) (.tmp 41) (.slice A4 j d4) (highsL l j) (.slice (some ⟨w5.heap.size, 0, none⟩) 1 1) [u - v] rfl rfl rfl rfl (HT6.out.b.own.alloc _) (Src.one (by simp [go_sem]; rfl)) (by rw [Hl2.out]; simp; omega) ?_
        intro A6 d6 w7 hO hG
        have hT7 := TwoN.second (xs := [u - v]) (HT6.out.fr0 ((Fr.refl [] w5.drew).alloc (.cells #[.int .i64 (u - v)] 3))) hO hG
        rw [← Hhigh.out] at hT7
        rw [Hl2.out] at hT7 ⊢
        have HT7 := Lib.hid hT7
        have p1 := Hcell.out _ hT7.a.fr
        clear hO hG hT7
        refine hK.out _ _ ?_ (fun hHeld => ?_)
        · (first | exact p1 | exact m1 | exact c1)
        clear hK K
        (try simp only [Act.put, List.setIfInBounds_toArray, List.set_cons_zero, List.set_cons_succ])
        refine wpAnyH_pick 13 (v := ?_) rfl (by kernel_rfl) (by kernel_rfl) (by kernel_rfl) (fun _ _ _ h => h) (by assumption) (by rfl) ?_ ?_
        rotate_left
        · (intro w hSw; (try dsimp only at hSw); go_simp) <;> (with_reducible rfl)
        (try simp only [Act.put, List.setIfInBounds_toArray, List.set_cons_zero, List.set_cons_succ])
        refine wpAnyH_done (by kernel_rfl) ?_ _
        skip
        go_wp2_with fail
        exact ⟨⟨j + 1, A5, d5, A6, d6, by omega, congrArg (fun z => Value.int .i64 z) (by have := HJ.out; omega), rfl, rfl, HT7.out⟩, by have := HJ.out; have := eJ1; simp [intOf]; omega⟩
      · have eg : decide (J < n) = false := by have := Hn2.out; simp; omega
        have hjP : j = P := by omega
        subst hjP
        have hlen := lowsL_length l j
        have hlen2 := highsL_length l j
        have hT1 := hT.fr0 ((Fr.refl [] wr).alloc (.cells #[] 3))
        have hcall := IH.out A3 d3 (lowsL l j) m _ (by rw [hlen]; exact hT1.a.src) (by rw [hlen, HP.out]) (by omega) hm hm2 (by rw [← HP.out]; exact HlowB.out)
        rw [hlen] at hcall
        have hbl : ∀ k, (Value.slice A4 j d4).ownBlock = some k → k < wr.heap.size := fun k hk => hT.b.own.lt k hk
        have hwr := hT.a.fr.size
        have Hcall := Lib.hid hcall; have HT1 := Lib.hid hT1; have Hbl := Lib.hid hbl; have Hlen2 := Lib.hid hlen2
        have HrL := Lib.hid (rowL_length k (lowsL l j))
        obtain ⟨RL, hRL⟩ : ∃ RL, RL = rowL k (lowsL l j) := ⟨_, rfl⟩
        obtain ⟨HL, hHL⟩ : ∃ HL, HL = highsL l j := ⟨_, rfl⟩
        rw [← hRL] at Hcall HrL
        rw [← hHL] at HT1 Hlen2
        have HRL := Lib.hid hRL; have HHL := Lib.hid hHL
        rw [← HP.out] at HrL
        clear hlen hlen2 hT1 hcall hbl hT hRL hHL hJ IH Hb HlowB
        go_wp2_with fail
        refine Hcall.out.mono ?_
        rintro e w2 ⟨A5, c5, rfl, hs5, hf5⟩
        have hlit : Own (wr.alloc (.cells #[] 3)) 3 (.slice (some ⟨wr.heap.size, 0, none⟩) 0 0) ([] : List Value) := Own.lit wr 3 #[] 0 rfl (by simp [maxLen])
        have hT2 : TwoN w w2 (.slice (some ⟨wr.heap.size, 0, none⟩) 0 0) (.slice A4 j d4) [] HL := by
          have hb := HT1.out.b.fr0 hf5
          refine ⟨⟨hlit.fr hf5 (by simp), hb.fr, fun k hk => by injection hk with hk; subst hk; exact hwr⟩, hb, fun k hk hu => ?_⟩
          have hk2 : wr.heap.size = k := by simpa [Value.ownBlock] using hk
          have := Hbl.out k hu
          omega
        have HT2 := Lib.hid hT2; have HS5 := Lib.hid hs5
        clear hlit hT2 hs5 hf5 HT1 Hcall
        go_wp2_with (at_builtin; refine wp_append_num _ _ (.slice (some ⟨wr.heap.size, 0, none⟩) 0 0) [] (.slice A5 RL.length c5) RL rfl rfl rfl rfl HT2.out.a.own HS5.out (by have := HrL.out; simp; omega) ?_)
        intro A6 d6 w3 hO hG
        have hT3 := TwoN.first (xs := RL) HT2.out (by simpa using hO) hG
        simp only [List.nil_append, List.length_nil, Nat.zero_add] at hT3 ⊢
        have HT3 := Lib.hid hT3
        clear hO hG hT3 HT2 HS5
        go_wp2_with (at_builtin; refine wp_append_num _ _ (.slice A6 RL.length d6) RL (.slice A4 j d4) HL rfl rfl rfl rfl HT3.out.a.own HT3.out.b.src (by have := HrL.out; have := Hlen2.out; omega) ?_)
        intro A7 d7 w4 hO hG
        have hM := MineN.appended (ms := HL) HT3.out.a (by rw [List.map_append]; exact hO) hG
        have HM := Lib.hid hM
        clear hO hG hM HT3
        go_wp2_with fail
        go_ret
        rw [← HRL.out, ← HHL.out]
        refine ⟨A7, d7, by rw [List.length_append]; rfl, ?_, HM.out.fr⟩
        rw [List.length_append]
        exact HM.out.src
end Go.Proofs.Ytednjpgibbnieaa

/-
  Contracts of the document's lift: Unrow. Conditions: rows of 2^k numbers, k at most 4; numbers within 2^34.
-/
namespace Go.Proofs.Ytednjpgibbnieaa
open Go.RowKit

theorem unrowL_at {k : Nat} {l : List Int} {j : Nat} (h : j < 2 ^ k) : numAt (unrowL k l) j = unrowAt k (numAt l) j := numAt_map h

set_option maxRecDepth 20000 in
set_option maxHeartbeats 8000000 in
theorem runrow7_any : ∀ (k : Nat) (A : Option Addr) (c : Nat) (l : List Int) (m : Int) (w : World), Src w (.slice A l.length c) (l.map I64) → l.length = 2 ^ k → k ≤ 4 → 1 ≤ m → m ≤ 17179869184 → (∀ j, j < 2 ^ k → -m ≤ numAt l j ∧ numAt l j ≤ m) →
    Calls Try.prog 34 #[.slice A l.length c] w (NumsPost w (unrowL k l))
  | 0, A, c, l, m, w, hs, hl, _, _, _, _ => by
    rw [unrowL_zero hl, hl]
    have HS := Lib.hid hs
    clear hs
    go_enter Try.func34, Try.ntmps34
    go_wp2_with fail
    go_ret
    refine ⟨A, c, by rw [hl]; rfl, HS.out, Fr.refl _ _⟩
  | k + 1, A, c, l, m, w, hs, hl, hk, hm, hm2, hb => by
    have IH := Lib.hid (runrow7_any k)
    obtain ⟨P, hP⟩ : ∃ P, P = 2 ^ k := ⟨_, rfl⟩
    have hP8 : P ≤ 8 := by rw [hP]; exact Nat.pow_le_pow_right (n := 2) (i := k) (j := 3) (by omega) (by omega)
    have hP1 : 1 ≤ P := by rw [hP]; exact Nat.one_le_two_pow
    have hl2 : l.length = 2 * P := by rw [hl, hP, Nat.pow_succ, Nat.mul_comm]
    rw [Nat.pow_succ, Nat.mul_comm, ← hP] at hb
    have hA : ∃ ad, A = some ad ∧ l.length ≤ c := by
      rcases hs with ⟨e, h0⟩ | ⟨ad, c', e, hle, -⟩
      · have := congrArg List.length h0
        rw [List.length_map, List.length_nil] at this
        omega
      · injection e with q1 q2 q3
        rw [List.length_map] at hle
        exact ⟨ad, q1, by omega⟩
    obtain ⟨ad, rfl, hc⟩ := hA
    have htl : (l.take P).length = P := by rw [List.length_take]; omega
    have htake : ∀ W, Fr [] w W → Src W (.slice (some ad) P c) ((l.take P).map I64) := by
      intro W hf
      rcases (hs.fr0 hf) with ⟨e, -⟩ | ⟨ad', c', e, hle, hcell⟩
      · cases e
      · injection e with q1 q2 q3
        injection q1 with q1
        subst q1 q3
        refine .inr ⟨ad, c, by rw [List.length_map, htl], by rw [List.length_map, htl]; omega, fun j u hu => hcell j u ?_⟩
        rw [List.getElem?_map] at hu ⊢
        rw [List.getElem?_take] at hu
        split at hu
        · exact hu
        · cases hu
    have hcall := fun W (hf : Fr [] w W) => runrow7_any k (some ad) c (l.take P) m W (by rw [htl]; exact htake W hf) (by rw [htl, hP]) (by omega) hm hm2 (by
      intro j hj
      rw [take_num (by omega)]
      exact hb j (by omega))
    rw [htl] at hcall
    have hlowb : ∀ j, j < P → -(9 * m) ≤ numAt (unrowL k (l.take P)) j ∧ numAt (unrowL k (l.take P)) j ≤ 9 * m := by
      intro j hj
      rw [hP] at hj
      rw [unrowL_at hj]
      have := unrowAt_le k (numAt (l.take P)) m j hj hm (by
        intro i hi
        rw [take_num (by omega)]
        exact hb i (by omega))
      have h9 : ((2 * k + 1 : Nat) : Int) * m ≤ 9 * m := Int.mul_le_mul_of_nonneg_right (by omega) (by omega)
      omega
    have hlowl : (unrowL k (l.take P)).length = P := by rw [unrowL_length, hP]
    obtain ⟨LO, hLO⟩ : ∃ LO, LO = unrowL k (l.take P) := ⟨_, rfl⟩
    have hsucc := fun i (hi : i < P) => unpairs_succ k l i (by omega)
    rw [← hP, ← hLO] at hsucc
    rw [← hLO] at hcall hlowb hlowl
    have hfull := unpairs_full k l
    rw [← hP] at hfull
    have HS := Lib.hid hs; have Hl := Lib.hid hl2; have Hb := Lib.hid hb; have HLb := Lib.hid hlowb; have HLl := Lib.hid hlowl; have Hsucc := Lib.hid hsucc; have Hcall := Lib.hid hcall; have Hfull := Lib.hid hfull
    obtain ⟨n, hn⟩ : ∃ n, n = l.length := ⟨_, rfl⟩
    have hn2 : n = 2 * P := by rw [hn, hl2]
    have t1 : decide ((n : Int) < 2) = false := by simp; omega
    have q1 : (n : Int) / 2 = (P : Int) := by omega
    have hPc : P ≤ c := by omega
    have Hn := Lib.hid hn; have Hn2 := Lib.hid hn2
    rw [← hn]
    clear hs hl hl2 hP hb hlowb hn hn2 hlowl hsucc hcall htake htl hfull hLO IH hc
    go_enter Try.func34, Try.ntmps34
    go_wp2_with fail
    refine (Hcall.out _ (Fr.refl _ _)).mono ?_
    rintro e w1 ⟨A4, c4, rfl, hs4, hf4⟩
    rw [HLl.out] at hs4 ⊢
    have HS4 := Lib.hid hs4; have HF4 := Lib.hid hf4
    clear hs4 hf4 Hcall
    go_wp2_with fail
    go_loopw [5, 6] (fun s5 s6 wr => ∃ (i : Nat) (B : Option Addr) (d : Nat), i ≤ P ∧ s6 = .int .i64 (i : Int) ∧ s5 = .slice B (2 * i) d ∧ MineN w1 wr (.slice B (2 * i) d) (unpairs k l i)) (fun _ s6 _ => P - (intOf s6).toNat)
    case atStart => exact ⟨0, none, 0, by omega, rfl, rfl, MineN.nil (Fr.refl _ _)⟩
    case round =>
      obtain ⟨i, B, d, hi, rfl, rfl, hM⟩ := hrel
      by_cases hlt : i < P
      · have eg : decide (i < P) = true := by simpa using hlt
        obtain ⟨I, hI⟩ : ∃ I, I = P + i := ⟨_, rfl⟩
        have eI : (P : Int) + (i : Int) = (I : Int) := by omega
        have wI : IntKind.i64.wrap (I : Int) = (I : Int) := IntWalk.i64_in _ (by omega)
        have hIl : I < l.length := by have := Hl.out; omega
        have hIn : I < n := by have := Hn.out; omega
        have hin2 : i < P := hlt
        have cx := (HS.out.fr0 (HF4.out.trans hM.fr (by simp))).numS hIl
        obtain ⟨a4, rfl, cy⟩ := (HS4.out.fr0 hM.fr.drew).num (k := i) (by have := HLl.out; omega)
        have hbh := Hb.out I (by omega)
        have hbl := HLb.out i hlt
        have hs2 := Hsucc.out i hlt
        rw [← hI] at hs2
        unfold numAt at hbh hbl hs2
        obtain ⟨h, hh⟩ : ∃ h, h = l.getD I 0 := ⟨_, rfl⟩
        obtain ⟨v, hv⟩ : ∃ v, v = LO.getD i 0 := ⟨_, rfl⟩
        rw [← hh] at cx hbh hs2
        rw [← hv] at cy hbl hs2
        obtain ⟨z, hz⟩ : ∃ z, z = h / 2 := ⟨_, rfl⟩
        have HFl := Lib.hid fun w => rfloor_any h w (by omega) (by omega)
        rw [← hz] at HFl hs2
        obtain ⟨x, hx⟩ : ∃ x, x = v - z := ⟨_, rfl⟩
        have ex : v - z = x := hx.symm
        rw [ex] at hs2
        have wx : IntKind.i64.wrap x = x := IntWalk.i64_in _ (by omega)
        have wxh : IntKind.i64.wrap (x + h) = x + h := IntWalk.i64_in _ (by omega)
        have HM := Lib.hid (hM.fr0 (Fr.refl [] wr).drew); have Hs2 := Lib.hid hs2; have Hul := Lib.hid (unpairs_length k l i)
        clear hM hs2 hh hv hz hx hI hIl
        go_upto_region 10 with fail
        refine wp_region_held_drew (S := fun W' => W'.cell? (a4.add i) = some (.int .i64 v)) (by kernel_rfl) ?_ (fun hHeld => ?_)
        · exact cy
        refine wpAnyH_pick 0 (v := ?_) rfl (by kernel_rfl) (by kernel_rfl) (by kernel_rfl) (fun _ _ _ h => h) (by assumption) (by rfl) ?_ ?_
        rotate_left
        · (intro w hSw; (try dsimp only at hSw); go_simp) <;> (with_reducible rfl)
        (try simp only [Act.put, List.setIfInBounds_toArray, List.set_cons_zero, List.set_cons_succ])
        refine wpAnyH_pick 1 (v := ?_) rfl (by kernel_rfl) (by kernel_rfl) (by kernel_rfl) (fun _ _ _ h => h) (by assumption) (by rfl) ?_ ?_
        rotate_left
        · (intro w hSw; (try dsimp only at hSw); go_simp) <;> (with_reducible rfl)
        (try simp only [Act.put, List.setIfInBounds_toArray, List.set_cons_zero, List.set_cons_succ])
        refine wpAnyH_pick 2 (v := ?_) rfl (by kernel_rfl) (by kernel_rfl) (by kernel_rfl) (fun _ _ _ h => h) (by assumption) (by rfl) ?_ ?_
        rotate_left
        · (intro w hSw; (try dsimp only at hSw); go_simp) <;> (with_reducible rfl)
        (try simp only [Act.put, List.setIfInBounds_toArray, List.set_cons_zero, List.set_cons_succ])
        refine wpAnyH_pick 3 (v := ?_) rfl (by kernel_rfl) (by kernel_rfl) (by kernel_rfl) (fun _ _ _ h => h) (by assumption) (by rfl) ?_ ?_
        rotate_left
        · (intro w hSw; (try dsimp only at hSw); go_simp) <;> (with_reducible rfl)
        (try simp only [Act.put, List.setIfInBounds_toArray, List.set_cons_zero, List.set_cons_succ])
        refine wpAnyH_pick 4 (v := ?_) rfl (by kernel_rfl) (by kernel_rfl) (by kernel_rfl) (fun _ _ _ h => h) (by assumption) (by rfl) ?_ ?_
        rotate_left
        · (intro w hSw; (try dsimp only at hSw); go_simp) <;> (with_reducible rfl)
        (try simp only [Act.put, List.setIfInBounds_toArray, List.set_cons_zero, List.set_cons_succ])
        refine wpAnyH_ready (rs := [5]) (by kernel_rfl) (by simp) ?_
        refine AllReadyH_pick rfl (fun K hK => ?_) (AllReadyH.nil)
        go_simp
        refine (HFl.out _).mono ?_
        rintro e w4 ⟨rfl, rfl⟩
        go_wp2_with fail
        refine hK.out _ _ ?_ (fun hHeld => ?_)
        · exact cy
        clear hK K
        (try simp only [Act.put, List.setIfInBounds_toArray, List.set_cons_zero, List.set_cons_succ])
        refine wpAnyH_pick 6 (v := ?_) rfl (by kernel_rfl) (by kernel_rfl) (by kernel_rfl) (fun _ _ _ h => h) (by assumption) (by rfl) ?_ ?_
        rotate_left
        · (intro w hSw; (try dsimp only at hSw); go_simp) <;> (with_reducible rfl)
        (try simp only [Act.put, List.setIfInBounds_toArray, List.set_cons_zero, List.set_cons_succ])
        refine wpAnyH_pick 7 (v := ?_) rfl (by kernel_rfl) (by kernel_rfl) (by kernel_rfl) (fun _ _ _ h => h) (by assumption) (by rfl) ?_ ?_
        rotate_left
        · (intro w hSw; (try dsimp only at hSw); go_simp) <;> (with_reducible rfl)
        (try simp only [Act.put, List.setIfInBounds_toArray, List.set_cons_zero, List.set_cons_succ])
        refine wpAnyH_done (by kernel_rfl) ?_ _
        skip
        go_wp2_with (at_builtin; refine wp_append_num _ _ (.slice B (2 * i) d) (unpairs k l i) (.slice (some ⟨wr.heap.size, 0, none⟩) 2 2) [x + h, x] rfl rfl rfl rfl (HM.out.own.alloc _) (Own.lit wr.drew 3 #[.int .i64 (x + h), .int .i64 x] 2 rfl (by simp [maxLen])).src (by rw [Hul.out]; simp; omega) ?_)
        intro B2 d2 w2 hO hG
        have hM2 := MineN.appended (ms := [x + h, x]) (HM.out.fr0 ((Fr.refl _ _).alloc (.cells #[.int .i64 (x + h), .int .i64 x] 3))) (by rw [List.map_append]; exact hO) hG
        rw [← Hs2.out] at hM2
        rw [Hul.out] at hM2 ⊢
        have HM2 := Lib.hid hM2
        clear hO hG hM2
        go_wp2_with fail
        exact ⟨⟨i + 1, B2, d2, by omega, by simp, rfl, HM2.out⟩, by simp [intOf]; omega⟩
      · have eg : decide (i < P) = false := by simpa using hlt
        have hiP : i = P := by omega
        rw [hiP] at hM ⊢
        rw [Hfull.out] at hM
        have HM := Lib.hid hM
        have hl := unrowL_length (k + 1) l
        have Hl3 := Lib.hid (show (unrowL (k + 1) l).length = 2 * P by rw [← Hfull.out, unpairs_length])
        clear hM hl
        go_wp2_with fail
        go_ret
        refine ⟨B, d, by rw [Hl3.out]; rfl, ?_, HF4.out.trans HM.out.fr (by simp)⟩
        rw [Hl3.out]
        exact HM.out.src
end Go.Proofs.Ytednjpgibbnieaa

/-
  Contracts of the document's lift: rows. Conditions: blocks of 4 by 4 or 8 by 8; numbers within 2^34.
-/
namespace Go.Proofs.Ytednjpgibbnieaa
open Go.RowKit

def Bnd (b : List Int) (m : Int) : Prop := ∀ i, i < b.length → -m ≤ numAt b i ∧ numAt b i ≤ m
theorem turnL_bnd {n : Nat} {b : List Int} {m : Int} (h : Bnd b m) (hl : b.length = n * n) : Bnd (turnL n b) m := by
  intro i hi
  rw [turnL_length] at hi
  obtain ⟨hx, hy, he⟩ := by_cell hi
  unfold turnL
  rw [numAt_map hi]
  exact h _ (by rw [hl]; exact cell_of hy hx)
theorem rowsL_bnd {k : Nat} {b : List Int} {m : Int} (h : Bnd b m) (hl : b.length = 2 ^ k * 2 ^ k) : Bnd (rowsL false k b) (2 * m) := by
  intro i hi
  rw [rowsL_length] at hi
  obtain ⟨hx, hy, he⟩ := by_cell hi
  rw [← he, rowsL_at hx hy, if_neg (by simp)]
  exact (rowAt_le k _ m _ hx fun j hj => h _ (by rw [hl]; exact cell_of hj hy)).1
theorem rowsL_bnd2 {k : Nat} {b : List Int} {m : Int} (h : Bnd b m) (hl : b.length = 2 ^ k * 2 ^ k) (hk : k ≤ 3) (hm : 1 ≤ m) : Bnd (rowsL true k b) (7 * m) := by
  intro i hi
  rw [rowsL_length] at hi
  obtain ⟨hx, hy, he⟩ := by_cell hi
  rw [← he, rowsL_at hx hy, if_pos rfl]
  have := unrowAt_le k (fun j => numAt b (i / 2 ^ k * 2 ^ k + j)) m _ hx hm fun j hj => h _ (by rw [hl]; exact cell_of hj hy)
  have h7 : ((2 * k + 1 : Nat) : Int) * m ≤ 7 * m := Int.mul_le_mul_of_nonneg_right (by omega) (by omega)
  omega

set_option maxRecDepth 20000 in
set_option maxHeartbeats 8000000 in
theorem rrows7_any (k : Nat) (A : Option Addr) (c : Nat) (b : List Int) (m : Int) (back : Bool) (w : World) (hs : Src w (.slice A b.length c) (b.map I64)) (hl : b.length = 2 ^ k * 2 ^ k) (hk : k ≤ 3) (hm : 1 ≤ m) (hm2 : m ≤ 17179869184) (hb : Bnd b m) :
    Calls Try.prog 27 #[.slice A b.length c, .int .i64 ((2 ^ k : Nat) : Int), .bool back] w (NumsPost w (rowsL back k b)) := by
  obtain ⟨P, hP⟩ : ∃ P, P = 2 ^ k := ⟨_, rfl⟩
  have hP8 : P ≤ 8 := by rw [hP]; exact Nat.pow_le_pow_right (n := 2) (i := k) (j := 3) (by omega) (by omega)
  have hP1 : 1 ≤ P := by rw [hP]; exact Nat.one_le_two_pow
  rw [← hP] at hl ⊢
  have hA : ∃ ad, A = some ad ∧ b.length ≤ c := by
    have hpos : 0 < b.length := by rw [hl]; exact Nat.mul_pos hP1 hP1
    rcases hs with ⟨e, h0⟩ | ⟨ad, c', e, hle, -⟩
    · have := congrArg List.length h0
      rw [List.length_map, List.length_nil] at this
      omega
    · injection e with q1 q2 q3
      rw [List.length_map] at hle
      exact ⟨ad, q1, by omega⟩
  obtain ⟨ad, rfl, hc⟩ := hA
  have hPP : P * P ≤ 64 := Nat.mul_le_mul hP8 hP8
  have hrow : ∀ y, y < P → (rowOfB b P y).length = P ∧ (∀ j, j < 2 ^ k → -m ≤ numAt (rowOfB b P y) j ∧ numAt (rowOfB b P y) j ≤ m) ∧ ∀ W, Fr [] w W → Src W (.slice (some (ad.add (y * P))) P (c - y * P)) ((rowOfB b P y).map I64) := by
    intro y hy
    have hin : y * P + P ≤ P * P := by
      have : (y + 1) * P ≤ P * P := Nat.mul_le_mul_right _ hy
      rw [Nat.add_mul, Nat.one_mul] at this
      exact this
    refine ⟨by unfold rowOfB; rw [List.length_take, List.length_drop, hl]; omega, fun j hj => ?_, fun W hf => ?_⟩
    · rw [← hP] at hj
      rw [rowOfB_at hj]
      exact hb _ (by rw [hl]; exact cell_of hj hy)
    · exact (hs.fr0 hf).part rfl (by rw [hl]; exact hin) hP1
  have hsucc := fun y => rowsTo_succ back k b y
  have hlen := fun y => rowsTo_length back k b y
  have hfull : rowsTo back k b P = rowsL back k b := by unfold rowsTo rowsL; rw [hP]
  rw [← hP] at hsucc hlen
  obtain ⟨n, hn⟩ : ∃ n, n = b.length := ⟨_, rfl⟩
  have hnPP : n = P * P := by rw [hn, hl]
  have hRow := fun y (hy : y < P) W (hf : Fr [] w W) => rrow7_any k (some (ad.add (y * P))) (c - y * P) (rowOfB b P y) m W (by rw [(hrow y hy).1]; exact (hrow y hy).2.2 W hf) (by rw [(hrow y hy).1, hP]) (by omega) (by omega) (by omega) (hrow y hy).2.1
  have hUn := fun y (hy : y < P) W (hf : Fr [] w W) => runrow7_any k (some (ad.add (y * P))) (c - y * P) (rowOfB b P y) m W (by rw [(hrow y hy).1]; exact (hrow y hy).2.2 W hf) (by rw [(hrow y hy).1, hP]) (by omega) hm hm2 (hrow y hy).2.1
  have hRL := fun y => rowL_length k (rowOfB b P y)
  have hUL := fun y => unrowL_length k (rowOfB b P y)
  rw [← hP] at hRL hUL
  have HRow := Lib.hid hRow; have HUn := Lib.hid hUn; have Hsucc := Lib.hid hsucc; have Hlen := Lib.hid hlen; have Hfull := Lib.hid hfull; have Hr := Lib.hid (fun y hy => (hrow y hy).1); have HRL := Lib.hid hRL; have HUL := Lib.hid hUL; have HnPP := Lib.hid hnPP
  have hnc : n ≤ c := by omega
  have hn64 : n ≤ 64 := by omega
  rw [← hn]
  clear hs hl hb hrow hsucc hlen hfull hn hnPP hRow hUn hRL hUL hP hPP hc
  go_enter Try.func27, Try.ntmps27
  go_wp2_with fail
  go_loopw [7, 8] (fun s7 s8 wr => ∃ (y : Nat) (B : Option Addr) (d : Nat), y ≤ P ∧ s8 = .int .i64 (y : Int) ∧ s7 = .slice B (y * P) d ∧ MineN w wr (.slice B (y * P) d) (rowsTo back k b y)) (fun _ s8 _ => P - (intOf s8).toNat)
  case atStart => exact ⟨0, none, 0, by omega, rfl, by rw [Nat.zero_mul], by rw [Nat.zero_mul, show rowsTo back k b 0 = [] by unfold rowsTo; rw [Nat.zero_mul]; rfl]; exact MineN.nil (Fr.refl _ _)⟩
  case round =>
    obtain ⟨y, B, d, hy, rfl, rfl, hM⟩ := hrel
    by_cases hlt : y < P
    · have eg : decide (y < P) = true := by simpa using hlt
      obtain ⟨K1, hK1⟩ : ∃ K1, K1 = y * P := ⟨_, rfl⟩
      obtain ⟨K2, hK2⟩ : ∃ K2, K2 = K1 + P := ⟨_, rfl⟩
      have hK2n : K2 ≤ n := by
        rw [hK2, hK1, HnPP.out]
        have : (y + 1) * P ≤ P * P := Nat.mul_le_mul_right _ hlt
        rw [Nat.add_mul, Nat.one_mul] at this
        exact this
      have eK1 : (y : Int) * (P : Int) = (K1 : Int) := by rw [hK1]; simp
      have eK2 : (K1 : Int) + (P : Int) = (K2 : Int) := by rw [hK2]; simp
      have wK1 : IntKind.i64.wrap (K1 : Int) = (K1 : Int) := IntWalk.i64_in _ (by omega)
      have wK2 : IntKind.i64.wrap (K2 : Int) = (K2 : Int) := IntWalk.i64_in _ (by omega)
      have k12 : K1 ≤ K2 := by omega
      have k2c : K2 ≤ c := by omega
      have k1c : K1 < c := by omega
      have hr := Hr.out y hlt
      have hc1 := HRow.out y hlt wr hM.fr
      have hc2 := fun W (hf : Fr [] wr W) => HUn.out y hlt W (hM.fr.trans hf (by simp))
      have hsu := Hsucc.out y
      have hle := Hlen.out y
      have hRL := HRL.out y
      have hUL := HUL.out y
      rw [hr, ← hK1] at hc1 hc2
      rw [← hK1] at hM hle ⊢
      have HM := Lib.hid hM; have HC1 := Lib.hid hc1; have HC2 := Lib.hid hc2; have Hsu := Lib.hid hsu; have Hle := Lib.hid hle; have HRLy := Lib.hid hRL; have HULy := Lib.hid hUL; have HK := Lib.hid (And.intro hK1 hK2)
      have hK21 : K2 - K1 = P := by omega
      have HK21 := Lib.hid hK21
      clear hM hc1 hc2 hsu hle hr hRL hUL hK1 hK2 hK21
      go_wp2_with fail
      rw [HK21.out]
      refine HC1.out.mono ?_
      rintro e w2 ⟨A2, c2, rfl, hs2, hf2⟩
      rw [HRLy.out] at hs2 ⊢
      have HM2 := Lib.hid (HM.out.fr0 hf2); have HS2 := Lib.hid hs2; have HF2 := Lib.hid hf2
      have hKl : K1 ≤ 64 := by omega
      clear hs2 hf2 HM HC1
      cases back
      · have hsu := Hsu.out
        rw [if_neg (by simp)] at hsu
        have Hsu2 := Lib.hid hsu
        clear hsu Hsu
        go_wp2_with (at_builtin; refine wp_append_num _ _ (.slice B K1 d) (rowsTo false k b y) (.slice A2 P c2) (rowL k (rowOfB b P y)) rfl rfl rfl rfl HM2.out.own HS2.out (by rw [Hle.out, HRLy.out]; omega) ?_)
        intro B2 d2 w3 hO hG
        have hM3 := MineN.appended (ms := rowL k (rowOfB b P y)) HM2.out (by rw [List.map_append]; exact hO) hG
        rw [← Hsu2.out] at hM3
        rw [Hle.out, HRLy.out] at hM3 ⊢
        have HM3 := Lib.hid hM3
        have hKn : K1 + P = (y + 1) * P := by rw [Nat.add_mul, Nat.one_mul, ← HK.out.1]
        rw [hKn] at HM3 ⊢
        clear hO hG hM3 hKn
        go_wp2_with fail
        exact ⟨⟨y + 1, B2, d2, by omega, by simp, rfl, HM3.out⟩, by simp [intOf]; omega⟩
      · have hsu := Hsu.out
        rw [if_pos rfl] at hsu
        have Hsu2 := Lib.hid hsu
        clear hsu Hsu
        go_wp2_with fail
        rw [HK21.out]
        refine (HC2.out _ HF2.out).mono ?_
        rintro e w4 ⟨A4, c4, rfl, hs4, hf4⟩
        rw [HULy.out] at hs4 ⊢
        have HM4 := Lib.hid (HM2.out.fr0 hf4); have HS4 := Lib.hid hs4
        clear hs4 hf4 HM2 HS2 HC2
        go_wp2_with (at_builtin; refine wp_append_num _ _ (.slice B K1 d) (rowsTo true k b y) (.slice A4 P c4) (unrowL k (rowOfB b P y)) rfl rfl rfl rfl HM4.out.own HS4.out (by rw [Hle.out, HULy.out]; omega) ?_)
        intro B2 d2 w3 hO hG
        have hM3 := MineN.appended (ms := unrowL k (rowOfB b P y)) HM4.out (by rw [List.map_append]; exact hO) hG
        rw [← Hsu2.out] at hM3
        rw [Hle.out, HULy.out] at hM3 ⊢
        have HM3 := Lib.hid hM3
        have hKn : K1 + P = (y + 1) * P := by rw [Nat.add_mul, Nat.one_mul, ← HK.out.1]
        rw [hKn] at HM3 ⊢
        clear hO hG hM3 hKn
        go_wp2_with fail
        exact ⟨⟨y + 1, B2, d2, by omega, by simp, rfl, HM3.out⟩, by simp [intOf]; omega⟩
    · have eg : decide (y < P) = false := by simpa using hlt
      have hyP : y = P := by omega
      subst hyP
      rw [Hfull.out] at hM
      have HM := Lib.hid hM
      have hl := rowsL_length back k b
      have Hl3 := Lib.hid (show (rowsL back k b).length = y * y by rw [← Hfull.out, Hlen.out])
      clear hM hl
      go_wp2_with fail
      go_ret
      refine ⟨B, d, by rw [Hl3.out]; rfl, ?_, HM.out.fr⟩
      rw [Hl3.out]
      exact HM.out.src
end Go.Proofs.Ytednjpgibbnieaa

/-
  Contracts of the document's lift: Forward, Back. Conditions: rows of bounded length.
-/
namespace Go.Proofs.Ytednjpgibbnieaa
open Go.RowKit

/-- Numbers answered, with an error's number. -/
def NumErr (w : World) (R : List Int × Int) (e : Ending) (w' : World) : Prop :=
  ∃ A c, e = .returned (.tuple #[.slice A R.1.length c, .int .i64 R.2]) ∧ Src w' (.slice A R.1.length c) (R.1.map I64) ∧ Fr [] w w'
theorem NumErr.none {w w' : World} {R : List Int × Int} (h : R = ([], 1)) (hf : Fr [] w w') : NumErr w R (.returned (.tuple #[.slice none 0 0, .int .i64 1])) w' := by
  subst h
  exact ⟨Option.none, 0, rfl, .inl ⟨rfl, rfl⟩, hf⟩
theorem side_pow {n : Nat} (h : sideN n ≠ 0) : ∃ k, k = sideK n ∧ sideN n = 2 ^ k ∧ n = 2 ^ k * 2 ^ k ∧ 1 ≤ k ∧ k ≤ 3 := by
  unfold sideN at *
  unfold sideK
  by_cases h1 : n = 16
  · subst h1
    exact ⟨2, by simp, by simp, by simp, by omega, by omega⟩
  · by_cases h2 : n = 64
    · subst h2
      exact ⟨3, by simp, by simp, by simp, by omega, by omega⟩
    · rw [if_neg h1, if_neg h2] at h
      exact absurd rfl h
theorem side_zero {n : Nat} (h : sideN n = 0) : sideK n = 0 := by
  unfold sideN at h
  unfold sideK
  by_cases h1 : n = 16
  · rw [if_pos h1] at h; omega
  · by_cases h2 : n = 64
    · rw [if_neg h1, if_pos h2] at h; omega
    · rw [if_neg h1, if_neg h2]
theorem within_bnd {b : List Int} {m : Int} (h : withinB b m = true) : Bnd b m := fun _ hi => within_at h hi

set_option maxRecDepth 20000 in
set_option maxHeartbeats 4000000 in
theorem rforward7_any (A : Option Addr) (c : Nat) (b : List Int) (w : World) (hs : Src w (.slice A b.length c) (b.map I64)) (hb : b.length ≤ 1000) :
    Calls Try.prog 9 #[.slice A b.length c] w (NumErr w (liftF b)) := by
  have HSd := Lib.hid fun w => rside7_any b.length w (by omega)
  have HWi := Lib.hid fun w' (hf : Fr [] w w') => rwithin_any A c b 1048576 w' (hs.fr0 hf) (by omega) (by omega) (by omega)
  obtain ⟨R, hR⟩ : ∃ R, R = NumErr w (liftF b) := ⟨_, rfl⟩
  rw [← hR]
  have HR := Lib.hid hR
  obtain ⟨n, hn⟩ : ∃ n, n = b.length := ⟨_, rfl⟩
  have Hn := Lib.hid hn
  by_cases h0 : sideN b.length = 0
  · have Hend := Lib.hid (NumErr.none (w := w) (w' := w) (R := liftF b) (by unfold liftF; rw [if_pos (.inl (side_zero h0))]) (Fr.refl _ _))
    rw [h0] at HSd
    rw [← hR] at Hend
    rw [← hn] at HSd HWi ⊢
    clear hs hb hR hn h0
    go_enter Try.func9, Try.ntmps9
    go_wp2_with fail
    refine (HSd.out _).mono ?_
    rintro e w1 ⟨rfl, rfl⟩
    go_wp2_with fail
    refine (HWi.out _ (Fr.refl _ _)).mono ?_
    rintro e w2 ⟨rfl, rfl⟩
    go_wp2_with fail
    exact Hend.out
  · obtain ⟨k, hk, hP, hl, hk1, hk3⟩ := side_pow h0
    cases hw : withinB b 1048576
    · have Hend := Lib.hid (NumErr.none (w := w) (w' := w) (R := liftF b) (by unfold liftF; rw [if_pos (.inr hw)]) (Fr.refl _ _))
      rw [← hR] at Hend
      rw [hw] at HWi
      obtain ⟨P, hPe⟩ : ∃ P, P = sideN b.length := ⟨_, rfl⟩
      rw [← hPe] at HSd h0
      have t1 : ((P : Int) == 0) = false := by simp; omega
      rw [← hn] at HSd HWi ⊢
      clear hs hb hR hn h0 hk hP hl hk1 hk3 hw hPe
      go_enter Try.func9, Try.ntmps9
      go_wp2_with fail
      refine (HSd.out _).mono ?_
      rintro e w1 ⟨rfl, rfl⟩
      go_wp2_with fail
      refine (HWi.out _ (Fr.refl _ _)).mono ?_
      rintro e w2 ⟨rfl, rfl⟩
      go_wp2_with fail
      exact Hend.out
    · have hres : liftF b = (blkL k (fwdAt k (numAt b)), 0) := by
        unfold liftF
        rw [if_neg, ← hk]
        rintro (h | h)
        · omega
        · rw [hw] at h; cases h
      have hB0 := within_bnd hw
      have hB1 := rowsL_bnd (k := k) hB0 hl
      have hB2 := turnL_bnd hB1 (rowsL_length false k b)
      obtain ⟨b1, hb1⟩ : ∃ b1, b1 = rowsL false k b := ⟨_, rfl⟩
      obtain ⟨b2, hb2⟩ : ∃ b2, b2 = turnL (2 ^ k) b1 := ⟨_, rfl⟩
      obtain ⟨b3, hb3⟩ : ∃ b3, b3 = rowsL false k b2 := ⟨_, rfl⟩
      obtain ⟨b4, hb4⟩ : ∃ b4, b4 = turnL (2 ^ k) b3 := ⟨_, rfl⟩
      have h4 : b4 = blkL k (fwdAt k (numAt b)) := by rw [hb4, hb3, hb2, hb1]; exact fwd_list k b
      have l1 : b1.length = 2 ^ k * 2 ^ k := by rw [hb1, rowsL_length]
      have l2 : b2.length = 2 ^ k * 2 ^ k := by rw [hb2, turnL_length]
      have l3 : b3.length = 2 ^ k * 2 ^ k := by rw [hb3, rowsL_length]
      rw [← hb1, ← hb2] at hB2
      have C1 := fun W (hf : Fr [] w W) => rrows7_any k A c b 1048576 false W (hs.fr0 hf) hl hk3 (by omega) (by omega) hB0
      have C2 := fun W B d (h : Src W (.slice B b1.length d) (b1.map I64)) => rturned_any B d b1 (2 ^ k) W h l1 (by have := Nat.pow_le_pow_right (n := 2) (by omega) hk3; omega)
      have C3 := fun W B d (h : Src W (.slice B b2.length d) (b2.map I64)) => rrows7_any k B d b2 (2 * 1048576) false W h l2 hk3 (by omega) (by omega) hB2
      have C4 := fun W B d (h : Src W (.slice B b3.length d) (b3.map I64)) => rturned_any B d b3 (2 ^ k) W h l3 (by have := Nat.pow_le_pow_right (n := 2) (by omega) hk3; omega)
      rw [hP] at HSd
      rw [hw] at HWi
      obtain ⟨P, hPe⟩ : ∃ P, P = 2 ^ k := ⟨_, rfl⟩
      have hP4 : 1 ≤ P := by rw [hPe]; exact Nat.one_le_two_pow
      rw [← hPe] at HSd
      simp only [← hPe] at C1 C2 C3 C4
      rw [← hb1] at C1
      rw [← hPe] at hb2 hb4
      rw [← hb2] at C2
      rw [← hb3] at C3
      rw [← hb4] at C4
      have t1 : ((P : Int) == 0) = false := by simp; omega
      have HC1 := Lib.hid C1; have HC2 := Lib.hid C2; have HC3 := Lib.hid C3; have HC4 := Lib.hid C4; have Hres := Lib.hid (hres.trans (by rw [← h4]))
      rw [← hn] at HSd HWi HC1 ⊢
      clear hs hb hR hn h0 hk hP hl hk1 hk3 hw hPe hres hB0 hB1 hB2 hb1 hb2 hb3 hb4 h4 l1 l2 l3 C1 C2 C3 C4
      go_enter Try.func9, Try.ntmps9
      go_wp2_with fail
      refine (HSd.out _).mono ?_
      rintro e w1 ⟨rfl, rfl⟩
      go_wp2_with fail
      refine (HWi.out _ (Fr.refl _ _)).mono ?_
      rintro e w2 ⟨rfl, rfl⟩
      go_wp2_with fail
      refine (HC1.out _ (Fr.refl _ _)).mono ?_
      rintro e w3 ⟨A1, c1, rfl, hs1, hf1⟩
      have HF1 := Lib.hid hf1; have HS1 := Lib.hid hs1
      clear hf1 hs1
      go_wp2_with fail
      refine (HC2.out _ _ _ HS1.out).mono ?_
      rintro e w4 ⟨A2, c2, rfl, hs2, hf2⟩
      have HF2 := Lib.hid (HF1.out.trans hf2 (by simp)); have HS2 := Lib.hid hs2
      clear hf2 hs2
      go_wp2_with fail
      refine (HC3.out _ _ _ HS2.out).mono ?_
      rintro e w5 ⟨A3, c3, rfl, hs3, hf3⟩
      have HF3 := Lib.hid (HF2.out.trans hf3 (by simp)); have HS3 := Lib.hid hs3
      clear hf3 hs3
      go_wp2_with fail
      refine (HC4.out _ _ _ HS3.out).mono ?_
      rintro e w6 ⟨A4, c4, rfl, hs4, hf4⟩
      have HF4 := Lib.hid (HF3.out.trans hf4 (by simp)); have HS4 := Lib.hid hs4
      clear hf4 hs4
      go_wp2_with fail
      rw [HR.out]
      unfold NumErr
      rw [Hres.out]
      exact ⟨A4, c4, rfl, HS4.out, HF4.out⟩
end Go.Proofs.Ytednjpgibbnieaa

/-
  Contracts of the document's lift: Back. Conditions: rows of bounded length.
-/
namespace Go.Proofs.Ytednjpgibbnieaa
open Go.RowKit

set_option maxRecDepth 20000 in
set_option maxHeartbeats 4000000 in
theorem rback7_any (A : Option Addr) (c : Nat) (b : List Int) (w : World) (hs : Src w (.slice A b.length c) (b.map I64)) (hb : b.length ≤ 1000) :
    Calls Try.prog 11 #[.slice A b.length c] w (NumErr w (liftB b)) := by
  have HSd := Lib.hid fun w => rside7_any b.length w (by omega)
  have HWi := Lib.hid fun w' (hf : Fr [] w w') => rwithin_any A c b 67108864 w' (hs.fr0 hf) (by omega) (by omega) (by omega)
  obtain ⟨R, hR⟩ : ∃ R, R = NumErr w (liftB b) := ⟨_, rfl⟩
  rw [← hR]
  have HR := Lib.hid hR
  obtain ⟨n, hn⟩ : ∃ n, n = b.length := ⟨_, rfl⟩
  have Hn := Lib.hid hn
  by_cases h0 : sideN b.length = 0
  · have Hend := Lib.hid (NumErr.none (w := w) (w' := w) (R := liftB b) (by unfold liftB; rw [if_pos (.inl (side_zero h0))]) (Fr.refl _ _))
    rw [h0] at HSd
    rw [← hR] at Hend
    rw [← hn] at HSd HWi ⊢
    clear hs hb hR hn h0
    go_enter Try.func11, Try.ntmps11
    go_wp2_with fail
    refine (HSd.out _).mono ?_
    rintro e w1 ⟨rfl, rfl⟩
    go_wp2_with fail
    refine (HWi.out _ (Fr.refl _ _)).mono ?_
    rintro e w2 ⟨rfl, rfl⟩
    go_wp2_with fail
    exact Hend.out
  · obtain ⟨k, hk, hP, hl, hk1, hk3⟩ := side_pow h0
    cases hw : withinB b 67108864
    · have Hend := Lib.hid (NumErr.none (w := w) (w' := w) (R := liftB b) (by unfold liftB; rw [if_pos (.inr hw)]) (Fr.refl _ _))
      rw [← hR] at Hend
      rw [hw] at HWi
      obtain ⟨P, hPe⟩ : ∃ P, P = sideN b.length := ⟨_, rfl⟩
      rw [← hPe] at HSd h0
      have t1 : ((P : Int) == 0) = false := by simp; omega
      rw [← hn] at HSd HWi ⊢
      clear hs hb hR hn h0 hk hP hl hk1 hk3 hw hPe
      go_enter Try.func11, Try.ntmps11
      go_wp2_with fail
      refine (HSd.out _).mono ?_
      rintro e w1 ⟨rfl, rfl⟩
      go_wp2_with fail
      refine (HWi.out _ (Fr.refl _ _)).mono ?_
      rintro e w2 ⟨rfl, rfl⟩
      go_wp2_with fail
      exact Hend.out
    · have hres : liftB b = (blkL k (bckAt k (numAt b)), 0) := by
        unfold liftB
        rw [if_neg, ← hk]
        rintro (h | h)
        · omega
        · rw [hw] at h; cases h
      have hB0 := within_bnd hw
      have hB1 := turnL_bnd hB0 hl
      obtain ⟨b1, hb1⟩ : ∃ b1, b1 = turnL (2 ^ k) b := ⟨_, rfl⟩
      obtain ⟨b2, hb2⟩ : ∃ b2, b2 = rowsL true k b1 := ⟨_, rfl⟩
      obtain ⟨b3, hb3⟩ : ∃ b3, b3 = turnL (2 ^ k) b2 := ⟨_, rfl⟩
      obtain ⟨b4, hb4⟩ : ∃ b4, b4 = rowsL true k b3 := ⟨_, rfl⟩
      have h4 : b4 = blkL k (bckAt k (numAt b)) := by rw [hb4, hb3, hb2, hb1]; exact bck_list k b
      have l1 : b1.length = 2 ^ k * 2 ^ k := by rw [hb1, turnL_length]
      have l2 : b2.length = 2 ^ k * 2 ^ k := by rw [hb2, rowsL_length]
      have l3 : b3.length = 2 ^ k * 2 ^ k := by rw [hb3, turnL_length]
      rw [← hb1] at hB1
      have hB2 := rowsL_bnd2 (k := k) hB1 l1 hk3 (by omega)
      rw [← hb2] at hB2
      have hB3 := turnL_bnd hB2 l2
      rw [← hb3] at hB3
      have C1 := fun W (hf : Fr [] w W) => rturned_any A c b (2 ^ k) W (hs.fr0 hf) hl (by have := Nat.pow_le_pow_right (n := 2) (by omega) hk3; omega)
      have C2 := fun W B d (h : Src W (.slice B b1.length d) (b1.map I64)) => rrows7_any k B d b1 67108864 true W h l1 hk3 (by omega) (by omega) hB1
      have C3 := fun W B d (h : Src W (.slice B b2.length d) (b2.map I64)) => rturned_any B d b2 (2 ^ k) W h l2 (by have := Nat.pow_le_pow_right (n := 2) (by omega) hk3; omega)
      have C4 := fun W B d (h : Src W (.slice B b3.length d) (b3.map I64)) => rrows7_any k B d b3 (7 * 67108864) true W h l3 hk3 (by omega) (by omega) hB3
      rw [hP] at HSd
      rw [hw] at HWi
      obtain ⟨P, hPe⟩ : ∃ P, P = 2 ^ k := ⟨_, rfl⟩
      have hP4 : 1 ≤ P := by rw [hPe]; exact Nat.one_le_two_pow
      rw [← hPe] at HSd
      simp only [← hPe] at C1 C2 C3 C4
      rw [← hPe] at hb1 hb3
      rw [← hb1] at C1
      rw [← hb2] at C2
      rw [← hb3] at C3
      rw [← hb4] at C4
      have t1 : ((P : Int) == 0) = false := by simp; omega
      have HC1 := Lib.hid C1; have HC2 := Lib.hid C2; have HC3 := Lib.hid C3; have HC4 := Lib.hid C4; have Hres := Lib.hid (hres.trans (by rw [← h4]))
      rw [← hn] at HSd HWi HC1 ⊢
      clear hs hb hR hn h0 hk hP hl hk1 hk3 hw hPe hres hB0 hB1 hB2 hB3 hb1 hb2 hb3 hb4 h4 l1 l2 l3 C1 C2 C3 C4
      go_enter Try.func11, Try.ntmps11
      go_wp2_with fail
      refine (HSd.out _).mono ?_
      rintro e w1 ⟨rfl, rfl⟩
      go_wp2_with fail
      refine (HWi.out _ (Fr.refl _ _)).mono ?_
      rintro e w2 ⟨rfl, rfl⟩
      go_wp2_with fail
      refine (HC1.out _ (Fr.refl _ _)).mono ?_
      rintro e w3 ⟨A1, c1, rfl, hs1, hf1⟩
      have HF1 := Lib.hid hf1; have HS1 := Lib.hid hs1
      clear hf1 hs1
      go_wp2_with fail
      refine (HC2.out _ _ _ HS1.out).mono ?_
      rintro e w4 ⟨A2, c2, rfl, hs2, hf2⟩
      have HF2 := Lib.hid (HF1.out.trans hf2 (by simp)); have HS2 := Lib.hid hs2
      clear hf2 hs2
      go_wp2_with fail
      refine (HC3.out _ _ _ HS2.out).mono ?_
      rintro e w5 ⟨A3, c3, rfl, hs3, hf3⟩
      have HF3 := Lib.hid (HF2.out.trans hf3 (by simp)); have HS3 := Lib.hid hs3
      clear hf3 hs3
      go_wp2_with fail
      refine (HC4.out _ _ _ HS3.out).mono ?_
      rintro e w6 ⟨A4, c4, rfl, hs4, hf4⟩
      have HF4 := Lib.hid (HF3.out.trans hf4 (by simp)); have HS4 := Lib.hid hs4
      clear hf4 hs4
      go_wp2_with fail
      rw [HR.out]
      unfold NumErr
      rw [Hres.out]
      exact ⟨A4, c4, rfl, HS4.out, HF4.out⟩
end Go.Proofs.Ytednjpgibbnieaa

/-
  Contracts of the document's lift: Order. Condition: the number is an int's.
-/
namespace Go.Proofs.Ytednjpgibbnieaa
open Go.RowKit

def ints (l : List Nat) : List Int := l.map fun (p : Nat) => (p : Int)
theorem ints_length (l : List Nat) : (ints l).length = l.length := by simp [ints]
theorem ints_append (a b : List Nat) : ints (a ++ b) = ints a ++ ints b := by simp [ints]
/-- The first y places of a diagonal; the first s diagonals. -/
def diagTo (n s y : Nat) : List Nat := (List.range y).flatMap fun y => if y ≤ s ∧ s - y < n then [y * n + (s - y)] else []
def orderTo (n s : Nat) : List Nat := (List.range s).flatMap (diag n)
theorem diagTo_succ (n s y : Nat) : diagTo n s (y + 1) = diagTo n s y ++ (if y ≤ s ∧ s - y < n then [y * n + (s - y)] else []) := by
  unfold diagTo
  rw [List.range_succ, List.flatMap_append]
  simp
theorem orderTo_succ (n s : Nat) : orderTo n (s + 1) = orderTo n s ++ diagTo n s n := by
  unfold orderTo
  rw [List.range_succ, List.flatMap_append]
  simp [diag, diagTo]
theorem diagTo_len (n s : Nat) : ∀ y, (diagTo n s y).length ≤ y
  | 0 => by simp [diagTo]
  | y + 1 => by
    have := diagTo_len n s y
    rw [diagTo_succ, List.length_append]
    split <;> simp <;> omega
theorem orderTo_len (n : Nat) : ∀ s, (orderTo n s).length ≤ s * n
  | 0 => by simp [orderTo]
  | s + 1 => by
    have h1 := orderTo_len n s
    have h2 := diagTo_len n s n
    rw [orderTo_succ, List.length_append, Nat.add_mul]
    omega
theorem orderN_to (n : Nat) : orderN n = orderTo n (2 * n - 1) := rfl

set_option maxRecDepth 20000 in
theorem rorder7_bad (n : Int) (w : World) (h4 : n ≠ 4) (h8 : n ≠ 8) :
    Calls Try.prog 16 #[.int .i64 n] w (NumsPost w []) := by
  have t4 : (n == 4) = false := by simpa using h4
  have t8 : (n == 8) = false := by simpa using h8
  obtain ⟨R, hR⟩ : ∃ R, R = NumsPost w [] := ⟨_, rfl⟩
  have Hend := Lib.hid (show R (.returned (.slice none 0 0)) w by rw [hR]; exact ⟨none, 0, rfl, .inl ⟨rfl, rfl⟩, Fr.refl _ _⟩)
  rw [← hR]
  clear h4 h8 hR
  go_enter Try.func16, Try.ntmps16
  go_wp2_with fail
  go_loopw [3, 4] (fun s3 s4 wr => s3 = .slice none 0 0 ∧ s4 = .int .i64 0 ∧ wr = w) (fun _ _ _ => 0)
  case atStart => exact ⟨rfl, rfl, rfl⟩
  case round =>
    obtain ⟨rfl, rfl, rfl⟩ := hrel
    go_wp2_with fail
    all_goals exact Hend.out

set_option maxRecDepth 20000 in
set_option maxHeartbeats 8000000 in
theorem rorder7_good (N : Nat) (w : World) (hN : N = 4 ∨ N = 8) :
    Calls Try.prog 16 #[.int .i64 (N : Int)] w (NumsPost w (ints (orderN N))) := by
  have hN8 : N ≤ 8 := by omega
  have hN4 : 4 ≤ N := by omega
  obtain ⟨b4, hb4⟩ : ∃ b, b = ((N : Int) == 4) := ⟨_, rfl⟩
  obtain ⟨b8, hb8⟩ : ∃ b, b = ((N : Int) == 8) := ⟨_, rfl⟩
  have hbb : b4 = true ∨ (b4 = false ∧ b8 = true) := by
    rcases hN with rfl | rfl
    · exact .inl hb4
    · exact .inr ⟨hb4, hb8⟩
  have t4 : ((N : Int) == 4) = b4 := hb4.symm
  have t8 : ((N : Int) == 8) = b8 := hb8.symm
  obtain ⟨T, hT⟩ : ∃ T, T = 2 * N := ⟨_, rfl⟩
  obtain ⟨E, hE⟩ : ∃ E, E = 2 * N - 2 := ⟨_, rfl⟩
  have eT : 2 * (N : Int) = (T : Int) := by omega
  have eE : (T : Int) - 2 = (E : Int) := by omega
  have wT : IntKind.i64.wrap (T : Int) = (T : Int) := IntWalk.i64_in _ (by omega)
  have wE : IntKind.i64.wrap (E : Int) = (E : Int) := IntWalk.i64_in _ (by omega)
  rw [orderN_to, show 2 * N - 1 = E + 1 by omega]
  obtain ⟨R, hR⟩ : ∃ R, R = NumsPost w (ints (orderTo N (E + 1))) := ⟨_, rfl⟩
  have HR := Lib.hid hR
  rw [← hR]
  have hE14 : E ≤ 14 := by omega
  have HT := Lib.hid (And.intro hT hE)
  clear hN hb4 hb8 hR hT hE
  rcases hbb with rfl | ⟨rfl, rfl⟩
  all_goals
    go_enter Try.func16, Try.ntmps16
    go_wp2_with fail
    go_loopw [3, 4] (fun s3 s4 wr => ∃ (s : Nat) (B : Option Addr) (d : Nat), s ≤ E + 1 ∧ s4 = .int .i64 (s : Int) ∧ s3 = .slice B (orderTo N s).length d ∧ MineN w wr (.slice B (orderTo N s).length d) (ints (orderTo N s))) (fun _ s4 _ => E + 1 - (intOf s4).toNat)
    case atStart => exact ⟨0, none, 0, by omega, rfl, rfl, MineN.nil (Fr.refl _ _)⟩
    case round =>
      obtain ⟨s, B, d, hs, rfl, rfl, hM⟩ := hrel
      by_cases hlt : s ≤ E
      · have eg : decide (s ≤ E) = true := by simpa using hlt
        obtain ⟨O, hO⟩ : ∃ O, O = orderTo N s := ⟨_, rfl⟩
        have hOl : O.length ≤ 1000 := by
          rw [hO]
          have h1 := orderTo_len N s
          have h2 : s * N ≤ 15 * 8 := Nat.mul_le_mul (by omega) hN8
          omega
        rw [← hO] at hM ⊢
        have HM := Lib.hid hM; have HO := Lib.hid hO
        clear hM hO
        go_wp2_with fail
        go_loopw [3, 5] (fun s3 s5 wr => ∃ (y : Nat) (B : Option Addr) (d : Nat), y ≤ N ∧ s5 = .int .i64 (y : Int) ∧ s3 = .slice B (O ++ diagTo N s y).length d ∧ MineN w wr (.slice B (O ++ diagTo N s y).length d) (ints (O ++ diagTo N s y))) (fun _ s5 _ => N - (intOf s5).toNat)
        case atStart => exact ⟨0, B, d, by omega, rfl, by simp [diagTo], by simpa [diagTo] using HM.out⟩
        case round =>
          clear HM
          obtain ⟨y, B, d, hy, rfl, rfl, hM⟩ := hrel
          have hdl := diagTo_len N s y
          have hsuc := diagTo_succ N s y
          obtain ⟨Q, hQ⟩ : ∃ Q, Q = O ++ diagTo N s y := ⟨_, rfl⟩
          have hQl : Q.length ≤ 1010 := by rw [hQ, List.length_append]; omega
          rw [← hQ] at hM ⊢
          have HQ := Lib.hid hQ; have Hsuc := Lib.hid hsuc; have HM := Lib.hid hM
          clear hQ hsuc hdl hM
          by_cases hlt2 : y < N
          · have eg2 : decide (y < N) = true := by simpa using hlt2
            have wsy : IntKind.i64.wrap ((s : Int) - (y : Int)) = (s : Int) - (y : Int) := IntWalk.i64_in _ (by omega)
            by_cases hin : y ≤ s ∧ s - y < N
            · obtain ⟨X, hX⟩ : ∃ X, X = s - y := ⟨_, rfl⟩
              have eX : (s : Int) - (y : Int) = (X : Int) := by omega
              have wX : IntKind.i64.wrap (X : Int) = (X : Int) := IntWalk.i64_in _ (by omega)
              have eXN : decide (X < N) = true := by simp; omega
              obtain ⟨YN, hYN⟩ : ∃ YN, YN = y * N := ⟨_, rfl⟩
              obtain ⟨K, hK⟩ : ∃ K, K = YN + X := ⟨_, rfl⟩
              have hYNl : YN ≤ 64 := by rw [hYN]; exact Nat.mul_le_mul (show y ≤ 8 by omega) hN8
              have eYN : (y : Int) * (N : Int) = (YN : Int) := by rw [hYN]; simp
              have eK : (YN : Int) + (X : Int) = (K : Int) := by rw [hK]; simp
              have wYN : IntKind.i64.wrap (YN : Int) = (YN : Int) := IntWalk.i64_in _ (by omega)
              have wK : IntKind.i64.wrap (K : Int) = (K : Int) := IntWalk.i64_in _ (by omega)
              have hnew : O ++ diagTo N s (y + 1) = Q ++ [K] := by
                rw [HQ.out, Hsuc.out, if_pos hin, List.append_assoc, hK, hYN, hX]
              have hnl : (O ++ diagTo N s (y + 1)).length = Q.length + 1 := by rw [hnew]; simp
              have hni : ints (O ++ diagTo N s (y + 1)) = ints Q ++ [(K : Int)] := by rw [hnew, ints_append]; rfl
              have Hnl := Lib.hid hnl; have Hni := Lib.hid hni; have Hil := Lib.hid (ints_length Q)
              clear hnew hnl hni hK hYN hX hin wsy
              go_wp2_with (at_builtin; refine wp_append_num _ _ (.slice B Q.length d) (ints Q) (.slice (some ⟨wr.heap.size, 0, none⟩) 1 1) [(K : Int)] rfl rfl rfl rfl (HM.out.own.alloc _) (Src.one (by simp [go_sem]; rfl)) (by rw [Hil.out]; simp; omega) ?_)
              intro B2 d2 w3 hO3 hG3
              have hM3 := MineN.appended (ms := [(K : Int)]) (HM.out.fr0 ((Fr.refl _ _).alloc (.cells #[.int .i64 (K : Int)] 3))) (by rw [List.map_append]; exact hO3) hG3
              rw [← Hni.out] at hM3
              rw [Hil.out] at hM3 ⊢
              have HM3 := Lib.hid hM3
              clear hO3 hG3 hM3
              go_wp2_with fail
              exact ⟨⟨y + 1, B2, d2, by omega, by simp, by rw [Hnl.out], by rw [Hnl.out]; exact HM3.out⟩, by simp [intOf]; omega⟩
            · have hsame : O ++ diagTo N s (y + 1) = Q := by rw [HQ.out, Hsuc.out, if_neg hin, List.append_nil]
              have Hsame := Lib.hid hsame
              have hex : (s : Int) - (y : Int) < 0 ∨ (0 ≤ (s : Int) - (y : Int) ∧ (N : Int) ≤ (s : Int) - (y : Int)) := by omega
              clear hsame hin
              rcases hex with h1 | ⟨h1, h2⟩
              · have e1 : decide (0 ≤ (s : Int) - (y : Int)) = false := decide_eq_false (by omega)
                go_wp2_with fail
                exact ⟨⟨y + 1, B, d, by omega, by simp, by rw [Hsame.out], by rw [Hsame.out]; exact HM.out⟩, by simp [intOf]; omega⟩
              · have e1 : decide (0 ≤ (s : Int) - (y : Int)) = true := decide_eq_true (by omega)
                have e2 : decide ((s : Int) - (y : Int) < (N : Int)) = false := decide_eq_false (by omega)
                go_wp2_with fail
                exact ⟨⟨y + 1, B, d, by omega, by simp, by rw [Hsame.out], by rw [Hsame.out]; exact HM.out⟩, by simp [intOf]; omega⟩
          · have eg2 : decide (y < N) = false := by simpa using hlt2
            have hyN : y = N := by omega
            have hnew : orderTo N (s + 1) = Q := by rw [orderTo_succ, HQ.out, HO.out, hyN]
            have Hnew := Lib.hid hnew
            clear hnew hyN
            go_wp2_with fail
            exact ⟨⟨s + 1, B, d, by omega, by simp, by rw [Hnew.out], by rw [Hnew.out]; exact HM.out⟩, by simp [intOf]; omega⟩
      · have eg : decide (s ≤ E) = false := by simpa using hlt
        have hsE : s = E + 1 := by omega
        rw [hsE] at hM ⊢
        have HM := Lib.hid hM
        clear hM hsE
        go_wp2_with fail
        rw [HR.out]
        have hil := ints_length (orderTo N (E + 1))
        refine ⟨B, d, by rw [hil], ?_, HM.out.fr⟩
        rw [hil]
        exact HM.out.src
end Go.Proofs.Ytednjpgibbnieaa

/-
  Contracts of the document's lift: Sort, Unsort. Conditions: rows of bounded length.
-/
namespace Go.Proofs.Ytednjpgibbnieaa
open Go.RowKit

theorem rorder7_any (n : Int) (w : World) : Calls Try.prog 16 #[.int .i64 n] w (NumsPost w (ints (orderL n))) := by
  by_cases h4 : n = 4
  · subst h4
    exact rorder7_good 4 w (.inl rfl)
  · by_cases h8 : n = 8
    · subst h8
      exact rorder7_good 8 w (.inr rfl)
    · have : orderL n = [] := by unfold orderL; rw [if_neg (by omega)]
      rw [this]
      exact rorder7_bad n w h4 h8

/-- Each of n places once. -/
structure Once (L : List Nat) (n : Nat) : Prop where
  len : L.length = n
  lt : ∀ i, i < n → L.getD i 0 < n
  back : ∀ i, i < n → L.idxOf (L.getD i 0) = i
  here : ∀ p, p < n → L.idxOf p < n ∧ L.getD (L.idxOf p) 0 = p
theorem once4 : Once (orderL 4) 16 := by
  refine ⟨by decide, fun i hi => (order_back4 i hi).1, fun i hi => (order_back4 i hi).2, fun p hp => ⟨(order_perm4 p hp).1, ?_⟩⟩
  rw [List.getD_eq_getElem?_getD, (order_perm4 p hp).2]
  rfl
theorem once8 : Once (orderL 8) 64 := by
  refine ⟨by decide +kernel, fun i hi => (order_back8 i hi).1, fun i hi => (order_back8 i hi).2, fun p hp => ⟨(order_perm8 p hp).1, ?_⟩⟩
  rw [List.getD_eq_getElem?_getD, (order_perm8 p hp).2]
  rfl
theorem once_of (n : Nat) : (orderL (sideN n) = [] ∧ n ≠ 16 ∧ n ≠ 64) ∨ Once (orderL (sideN n)) n := by
  by_cases h1 : n = 16
  · subst h1; exact .inr once4
  · by_cases h2 : n = 64
    · subst h2; exact .inr once8
    · refine .inl ⟨?_, h1, h2⟩
      have : sideN n = 0 := by unfold sideN; rw [if_neg h1, if_neg h2]
      rw [this]
      rfl
theorem once_lt {n i : Nat} (h : i < (orderL (sideN n)).length) : (orderL (sideN n)).getD i 0 < n ∧ (orderL (sideN n)).length = n := by
  rcases once_of n with ⟨e, -⟩ | h1
  · rw [e] at h; simp at h
  · rw [h1.len] at h
    exact ⟨h1.lt i h, h1.len⟩
theorem once_len (n : Nat) : (orderL (sideN n)).length ≤ n := by
  rcases once_of n with ⟨e, -⟩ | h1
  · rw [e]; simp
  · rw [h1.len]; exact Nat.le_refl _
theorem ints_at {L : List Nat} {i : Nat} (h : i < L.length) : (ints L).getD i 0 = ((L.getD i 0 : Nat) : Int) := by
  unfold ints
  rw [List.getD_eq_getElem?_getD, List.getD_eq_getElem?_getD, List.getElem?_map, List.getElem?_eq_getElem h]
  rfl
theorem take_next {L : List Nat} {i : Nat} (h : i < L.length) (f : Nat → Int) : (L.take (i + 1)).map f = (L.take i).map f ++ [f (L.getD i 0)] := by
  rw [List.take_add_one, List.getElem?_eq_getElem h, List.map_append, List.getD_eq_getElem?_getD, List.getElem?_eq_getElem h]
  rfl

set_option maxRecDepth 20000 in
set_option maxHeartbeats 4000000 in
/-- Numbers answered in a row of the call's own. -/
def NumsNew (w : World) (l : List Int) (e : Ending) (w' : World) : Prop :=
  ∃ A c, e = .returned (.slice A l.length c) ∧ MineN w w' (.slice A l.length c) l
theorem NumsNew.post {w w' : World} {l : List Int} {e : Ending} (h : NumsNew w l e w') : NumsPost w l e w' := by
  obtain ⟨A, c, h1, h2⟩ := h
  exact ⟨A, c, h1, h2.src, h2.fr⟩
theorem MineN.from_ {w0 w1 w : World} {v : Value} {ns : List Int} (h : MineN w1 w v ns) (hf : Fr [] w0 w1) : MineN w0 w v ns :=
  ⟨h.own, hf.trans h.fr (by simp), fun k hk => Nat.le_trans hf.size (h.new k hk)⟩

theorem rsort7_new (A : Option Addr) (c : Nat) (b : List Int) (w : World) (hs : Src w (.slice A b.length c) (b.map I64)) (hb : b.length ≤ 1000) :
    Calls Try.prog 17 #[.slice A b.length c] w (NumsNew w (sortL b)) := by
  have HSd := Lib.hid fun w => rside7_any b.length w (by omega)
  have HOr := Lib.hid fun w => rorder7_any (sideN b.length : Int) w
  obtain ⟨L, hL⟩ : ∃ L, L = orderL (sideN b.length) := ⟨_, rfl⟩
  have hlt : ∀ i, i < L.length → L.getD i 0 < b.length := by
    intro i hi
    rw [hL] at hi ⊢
    exact (once_lt hi).1
  have hLl : L.length ≤ b.length := by rw [hL]; exact once_len _
  have hres : sortL b = L.map (numAt b) := by unfold sortL; rw [hL]
  rw [← hL] at HOr
  rw [hres]
  have HLt := Lib.hid hlt; have HS := Lib.hid hs
  obtain ⟨n, hn⟩ : ∃ n, n = b.length := ⟨_, rfl⟩
  have Hn := Lib.hid hn; have Hil := Lib.hid (ints_length L)
  obtain ⟨m, hm⟩ : ∃ m, m = L.length := ⟨_, rfl⟩
  have Hm := Lib.hid hm
  have hmn : m ≤ 1000 := by omega
  rw [← hn] at HSd HOr ⊢
  clear hs hb hL hlt hLl hres hn hm
  go_enter Try.func17, Try.ntmps17
  go_wp2_with fail
  refine (HSd.out _).mono ?_
  rintro e w1 ⟨rfl, rfl⟩
  go_wp2_with fail
  refine (HOr.out _).mono ?_
  rintro e w2 ⟨A2, c2, rfl, hs2, hf2⟩
  rw [Hil.out, ← Hm.out] at hs2 ⊢
  have HS2 := Lib.hid hs2; have HF2 := Lib.hid hf2
  clear hs2 hf2 HSd HOr
  go_wp2_with fail
  go_loopw [4, 5] (fun s4 s5 wr => ∃ (i : Nat) (B : Option Addr) (d : Nat), i ≤ m ∧ s5 = .int .i64 (i : Int) ∧ s4 = .slice B i d ∧ MineN w2 wr (.slice B i d) ((L.take i).map (numAt b))) (fun _ s5 _ => m - (intOf s5).toNat)
  case atStart => exact ⟨0, none, 0, by omega, rfl, rfl, MineN.nil (Fr.refl _ _)⟩
  case round =>
    obtain ⟨i, B, d, hi, rfl, rfl, hM⟩ := hrel
    by_cases hlt : i < m
    · have eg : decide (i < m) = true := by simpa using hlt
      have hiL : i < L.length := by have := Hm.out; omega
      obtain ⟨la, rfl, cx⟩ := (HS2.out.fr0 hM.fr).num (k := i) (by have := Hil.out; omega)
      rw [ints_at hiL] at cx
      obtain ⟨K, hK⟩ : ∃ K, K = L.getD i 0 := ⟨_, rfl⟩
      have hKl := HLt.out i hiL
      have hnext := take_next hiL (numAt b)
      rw [← hK] at cx hKl hnext
      obtain ⟨ba, rfl, cy⟩ := (HS.out.fr0 (HF2.out.trans hM.fr (by simp))).num hKl
      obtain ⟨v, hv⟩ : ∃ v, v = b.getD K 0 := ⟨_, rfl⟩
      rw [show numAt b K = v by rw [hv]; rfl] at hnext
      rw [← hv] at cy
      have hKn : K < n := by have := Hn.out; omega
      have htl : ((L.take i).map (numAt b)).length = i := by rw [List.length_map, List.length_take]; omega
      obtain ⟨X, hX⟩ : ∃ X, X = (L.take i).map (numAt b) := ⟨_, rfl⟩
      rw [← hX] at hM hnext htl
      have HM := Lib.hid hM; have Hnext := Lib.hid hnext; have Htl := Lib.hid htl
      clear hM hnext hK hv hKl hiL htl hX
      go_wp2_with (at_builtin; refine wp_append_num _ _ (.slice B i d) X (.slice (some ⟨wr.heap.size, 0, none⟩) 1 1) [v] rfl rfl rfl rfl (HM.out.own.alloc _) (Src.one (by simp [go_sem]; rfl)) (by rw [Htl.out]; simp; omega) ?_)
      intro B2 d2 w3 hO hG
      have hM3 := MineN.appended (ms := [v]) (HM.out.fr0 ((Fr.refl _ _).alloc (.cells #[.int .i64 v] 3))) (by rw [List.map_append]; exact hO) hG
      rw [← Hnext.out] at hM3
      rw [Htl.out] at hM3 ⊢
      have HM3 := Lib.hid hM3
      clear hO hG hM3
      go_wp2_with fail
      exact ⟨⟨i + 1, B2, d2, by omega, by simp, rfl, HM3.out⟩, by simp [intOf]; omega⟩
    · have eg : decide (i < m) = false := by simpa using hlt
      have him : i = m := by omega
      subst him
      rw [List.take_of_length_le (by have := Hm.out; omega)] at hM
      have HM := Lib.hid hM
      have Hl3 := Lib.hid (show (L.map (numAt b)).length = i by rw [List.length_map]; exact Hm.out.symm)
      clear hM
      go_wp2_with fail
      go_ret
      refine ⟨B, d, by rw [Hl3.out]; rfl, ?_⟩
      rw [Hl3.out]
      exact HM.out.from_ HF2.out
theorem rsort7_any (A : Option Addr) (c : Nat) (b : List Int) (w : World) (hs : Src w (.slice A b.length c) (b.map I64)) (hb : b.length ≤ 1000) :
    Calls Try.prog 17 #[.slice A b.length c] w (NumsPost w (sortL b)) :=
  (rsort7_new A c b w hs hb).mono fun _ _ h => h.post
end Go.Proofs.Ytednjpgibbnieaa

/-
  Contracts of the document's lift: Unsort. Conditions: rows of bounded length.
-/
namespace Go.Proofs.Ytednjpgibbnieaa
open Go.RowKit

theorem MineN.cell {w0 w : World} {A : Option Addr} {n c j : Nat} {ns : List Int} (h : MineN w0 w (.slice A n c) ns) (hj : j < ns.length) :
    ∃ g, A = some ⟨g, 0, none⟩ ∧ w0.heap.size ≤ g ∧ g < w.heap.size ∧ w.cell? ⟨g, j, none⟩ = some (.int .i64 (ns.getD j 0)) ∧ w.frozen? ⟨g, j, none⟩ = false ∧ n = ns.length ∧
      ∀ z : Int, MineN w0 (w.setCell ⟨g, j, none⟩ (.int .i64 z)) (.slice A n c) (ns.set j z) := by
  obtain ⟨g, rfl, h1, h2, h3, h4⟩ := h.own.cell (j := j) (by simpa using hj)
  refine ⟨g, rfl, h.new g rfl, h.own.lt g rfl, ?_, h2, by simpa using h3, fun z => ⟨?_, h.fr.setCell (.inr (h.new g rfl)) _, h.new⟩⟩
  · rw [h1, List.getElem?_map, List.getElem?_eq_getElem hj, List.getD_eq_getElem?_getD, List.getElem?_eq_getElem hj]; rfl
  · have := h.own.set j (.int .i64 z)
    rw [List.map_set]
    exact this

/-- The first i numbers are laid at their places. -/
def Placed (L : List Nat) (b xs : List Int) (i : Nat) : Prop := xs.length = L.length ∧ ∀ j, j < i → numAt xs (L.getD j 0) = numAt b j
theorem Placed.set {L : List Nat} {b xs : List Int} {i n : Nat} (h : Placed L b xs i) (ho : Once L n) (hi : i < n) : Placed L b (xs.set (L.getD i 0) (numAt b i)) (i + 1) := by
  refine ⟨by rw [List.length_set]; exact h.1, fun j hj => ?_⟩
  have hl := h.1
  have hll := ho.len
  have hlt := ho.lt i hi
  unfold numAt
  by_cases hji : j = i
  · subst hji
    rw [List.getD_eq_getElem?_getD, List.getElem?_set_self (by omega)]
    rfl
  · have hne : L.getD i 0 ≠ L.getD j 0 := by
      intro e
      have h1 := ho.back i hi
      have h2 := ho.back j (by omega)
      rw [e] at h1
      omega
    rw [List.getD_eq_getElem?_getD, List.getElem?_set_ne hne, ← List.getD_eq_getElem?_getD]
    exact h.2 j (by omega)
theorem Placed.full {L : List Nat} {b xs : List Int} {n : Nat} (h : Placed L b xs n) (ho : Once L n) : xs = (List.range L.length).map fun p => numAt b (L.idxOf p) := by
  have hll := ho.len
  apply num_ext
  · rw [h.1]; simp
  · intro p hp
    rw [h.1] at hp
    rw [numAt_map hp]
    obtain ⟨h1, h2⟩ := ho.here p (by omega)
    have := h.2 _ h1
    rw [h2] at this
    exact this

set_option maxRecDepth 20000 in
set_option maxHeartbeats 4000000 in
theorem runsort7_any (A : Option Addr) (c : Nat) (b : List Int) (w : World) (hs : Src w (.slice A b.length c) (b.map I64)) (hb : b.length ≤ 1000) :
    Calls Try.prog 18 #[.slice A b.length c] w (NumsPost w (unsortL b)) := by
  have HSd := Lib.hid fun w => rside7_any b.length w (by omega)
  have HOr := Lib.hid fun w => rorder7_any (sideN b.length : Int) w
  obtain ⟨L, hL⟩ : ∃ L, L = orderL (sideN b.length) := ⟨_, rfl⟩
  have honce : L = [] ∨ Once L b.length := by
    rcases once_of b.length with ⟨e, -⟩ | h
    · exact .inl (by rw [hL, e])
    · exact .inr (by rw [hL]; exact h)
  have hLl : L.length ≤ b.length := by rw [hL]; exact once_len _
  have hres : unsortL b = (List.range L.length).map fun p => numAt b (L.idxOf p) := by unfold unsortL; rw [hL]
  rw [← hL] at HOr
  have Hres := Lib.hid hres
  obtain ⟨R, hR⟩ : ∃ R, R = NumsPost w (unsortL b) := ⟨_, rfl⟩
  rw [← hR]
  have HR := Lib.hid hR
  have HOn := Lib.hid honce; have HS := Lib.hid hs
  obtain ⟨n, hn⟩ : ∃ n, n = b.length := ⟨_, rfl⟩
  have Hn := Lib.hid hn; have Hil := Lib.hid (ints_length L)
  obtain ⟨m, hm⟩ : ∃ m, m = L.length := ⟨_, rfl⟩
  have Hm := Lib.hid hm
  have hmn : m ≤ 1000 := by omega
  have hmn2 : m ≤ n := by omega
  rw [← hn] at HSd HOr ⊢
  obtain ⟨i0, hi0, hz0, hs0, hb0⟩ := info_parts info_num
  clear hs hb hL honce hLl hres hn hm hR
  go_enter Try.func18, Try.ntmps18
  go_wp2_with fail
  refine (HSd.out _).mono ?_
  rintro e w1 ⟨rfl, rfl⟩
  go_wp2_with fail
  refine (HOr.out _).mono ?_
  rintro e w2 ⟨A2, c2, rfl, hs2, hf2⟩
  rw [Hil.out, ← Hm.out] at hs2 ⊢
  have HS2 := Lib.hid hs2; have HF2 := Lib.hid hf2
  clear hs2 hf2 HSd HOr
  go_wp2_with (at_make; refine wpList_make_mine _ _ 22 3 i0 _ 8 _ _ m rfl rfl Try.underlying22 hi0 hz0 hs0 hb0 rfl rfl rfl (by omega) (by simp only [maxLen]; omega) ?_)
  intro w3 hO hF3 hlt3
  have hM : MineN w2 w3 (.slice (some ⟨w2.heap.size, 0, none⟩) m m) (List.replicate m 0) := by
    refine ⟨?_, hF3, fun k hk => ?_⟩
    · rw [List.map_replicate]; exact hO
    · have : w2.heap.size = k := by simpa [Value.ownBlock] using hk
      omega
  obtain ⟨g, hg⟩ : ∃ g, g = w2.heap.size := ⟨_, rfl⟩
  rw [← hg] at hM ⊢
  have HM := Lib.hid hM
  clear hO hF3 hlt3 hM hg hi0 hz0 hs0 hb0
  go_wp2_with fail
  go_loopw [5] (fun s5 wr => ∃ (i : Nat) (xs : List Int), i ≤ m ∧ s5 = .int .i64 (i : Int) ∧ MineN w2 wr (.slice (some ⟨g, 0, none⟩) m m) xs ∧ Placed L b xs i) (fun s5 _ => m - (intOf s5).toNat)
  case atStart => exact ⟨0, _, by omega, rfl, HM.out, by simp [Hm.out], fun j hj => absurd hj (by omega)⟩
  case round =>
    clear HM
    obtain ⟨i, xs, hi, rfl, hM, hPl⟩ := hrel
    by_cases hlt : i < m
    · have eg : decide (i < m) = true := by simpa using hlt
      have hiL : i < L.length := by have := Hm.out; omega
      have hon : Once L b.length := by
        rcases HOn.out with h | h
        · rw [h] at hiL; simp at hiL
        · exact h
      have hLb := hon.len
      have hib : i < b.length := by omega
      obtain ⟨la, rfl, cx⟩ := (HS2.out.fr0 hM.fr.drew).num (k := i) (by have := Hil.out; omega)
      rw [ints_at hiL] at cx
      have hset := hPl.set hon hib
      obtain ⟨K, hK⟩ : ∃ K, K = L.getD i 0 := ⟨_, rfl⟩
      have hKl := hon.lt i hib
      rw [← hK] at cx hKl hset
      obtain ⟨ba, rfl, cy⟩ := (HS.out.fr0 (HF2.out.trans hM.fr.drew (by simp))).num hib
      obtain ⟨v, hv⟩ : ∃ v, v = b.getD i 0 := ⟨_, rfl⟩
      rw [show numAt b i = v by rw [hv]; rfl] at hset
      rw [← hv] at cy
      have hKm : K < m := by have := Hm.out; omega
      have hin : i < n := by have := Hn.out; omega
      obtain ⟨g', hg', -, hgl, cz, fz, -, hst⟩ := (hM.fr0 (Fr.refl [] wr).drew).cell (j := K) (by rw [hPl.1]; omega)
      have hge := Option.some.inj hg'
      injection hge with hge
      subst hge
      have HM3 := Lib.hid (hst v); have HP3 := Lib.hid hset
      have hfl := Fr.setCell (Fr.refl [g] wr.drew) (p := ⟨g, K, none⟩) (.inl (by simp)) (.int .i64 v)
      have hgn : la.block ≠ g ∧ ba.block ≠ g := by
        have h1 := World.block_lt_of_cell? _ _ ((HS2.out).numS (k := i) (by have := Hil.out; omega))
        have h2 := World.block_lt_of_cell? _ _ ((HS.out.fr0 HF2.out).numS (k := i) hib)
        rw [addr_block] at h1 h2
        have := hM.new g rfl
        omega
      have dx := (hfl.cell (World.block_lt_of_cell? _ _ cx) (by rw [addr_block]; simp; exact hgn.1)).trans cx
      have dy := (hfl.cell (World.block_lt_of_cell? _ _ cy) (by rw [addr_block]; simp; exact hgn.2)).trans cy
      clear hM hPl hset hK hv hKl hiL hon hLb hib hst hg' hfl hgn
      go_upto_region 6 with fail
      refine wp_region_held_drew (S := fun W' => W'.cell? (la.add i) = some (.int .i64 (K : Int)) ∧ W'.cell? (ba.add i) = some (.int .i64 v)) (by kernel_rfl) ?_ (fun hHeld => ?_)
      · (first | exact ⟨dx, dy⟩ | exact ⟨cx, cy⟩)
      refine wpAnyH_pick 0 (v := ?_) rfl (by kernel_rfl) (by kernel_rfl) (by kernel_rfl) (fun _ _ _ h => h) (by assumption) (by rfl) ?_ ?_
      rotate_left
      · (intro w hSw; (try dsimp only at hSw); go_simp) <;> (with_reducible rfl)
      (try simp only [Act.put, List.setIfInBounds_toArray, List.set_cons_zero, List.set_cons_succ])
      refine wpAnyH_pick 1 (v := ?_) rfl (by kernel_rfl) (by kernel_rfl) (by kernel_rfl) (fun _ _ _ h => h) (by assumption) (by rfl) ?_ ?_
      rotate_left
      · (intro w hSw; (try dsimp only at hSw); go_simp) <;> (with_reducible rfl)
      (try simp only [Act.put, List.setIfInBounds_toArray, List.set_cons_zero, List.set_cons_succ])
      refine wpAnyH_pick 2 (v := ?_) rfl (by kernel_rfl) (by kernel_rfl) (by kernel_rfl) (fun _ _ _ h => h) (by assumption) (by rfl) ?_ ?_
      rotate_left
      · (intro w hSw; (try dsimp only at hSw); go_simp) <;> (with_reducible rfl)
      (try simp only [Act.put, List.setIfInBounds_toArray, List.set_cons_zero, List.set_cons_succ])
      refine wpAnyH_pick 3 (v := ?_) rfl (by kernel_rfl) (by kernel_rfl) (by kernel_rfl) (fun _ _ _ h => h) (by assumption) (by rfl) ?_ ?_
      rotate_left
      · (intro w hSw; (try dsimp only at hSw); go_simp) <;> (with_reducible rfl)
      (try simp only [Act.put, List.setIfInBounds_toArray, List.set_cons_zero, List.set_cons_succ])
      refine wpAnyH_pick 4 (v := ?_) rfl (by kernel_rfl) (by kernel_rfl) (by kernel_rfl) (fun _ _ _ h => h) (by assumption) (by rfl) ?_ ?_
      rotate_left
      · (intro w hSw; (try dsimp only at hSw); go_simp) <;> (with_reducible rfl)
      (try simp only [Act.put, List.setIfInBounds_toArray, List.set_cons_zero, List.set_cons_succ])
      refine wpAnyH_pick 5 (v := ?_) rfl (by kernel_rfl) (by kernel_rfl) (by kernel_rfl) (fun _ _ _ h => h) (by assumption) (by rfl) ?_ ?_
      rotate_left
      · (intro w hSw; (try dsimp only at hSw); go_simp) <;> (with_reducible rfl)
      (try simp only [Act.put, List.setIfInBounds_toArray, List.set_cons_zero, List.set_cons_succ])
      refine wpAnyH_pick 6 (v := ?_) rfl (by kernel_rfl) (by kernel_rfl) (by kernel_rfl) (fun _ _ _ h => h) (by assumption) (by rfl) ?_ ?_
      rotate_left
      · (intro w hSw; (try dsimp only at hSw); go_simp) <;> (with_reducible rfl)
      (try simp only [Act.put, List.setIfInBounds_toArray, List.set_cons_zero, List.set_cons_succ])
      refine wpAnyH_pick 7 (v := ?_) rfl (by kernel_rfl) (by kernel_rfl) (by kernel_rfl) (fun _ _ _ h => h) (by assumption) (by rfl) ?_ ?_
      rotate_left
      · (intro w hSw; (try dsimp only at hSw); go_simp) <;> (with_reducible rfl)
      (try simp only [Act.put, List.setIfInBounds_toArray, List.set_cons_zero, List.set_cons_succ])
      refine wpAnyH_pick 8 (v := ?_) rfl (by kernel_rfl) (by kernel_rfl) (by kernel_rfl) (fun _ _ _ h => h) (by assumption) (by rfl) ?_ ?_
      rotate_left
      · (intro w hSw; (try dsimp only at hSw); go_simp) <;> (with_reducible rfl)
      (try simp only [Act.put, List.setIfInBounds_toArray, List.set_cons_zero, List.set_cons_succ])
      refine wpAnyH_pick 9 (v := ?_) rfl (by kernel_rfl) (by kernel_rfl) (by kernel_rfl) (fun _ _ _ h => h) (by assumption) (by rfl) ?_ ?_
      rotate_left
      · (intro w hSw; (try dsimp only at hSw); go_simp) <;> (with_reducible rfl)
      (try simp only [Act.put, List.setIfInBounds_toArray, List.set_cons_zero, List.set_cons_succ])
      refine wpAnyH_ready (rs := [10]) (by kernel_rfl) (by simp) ?_
      refine AllReadyH_pick rfl (fun K hK => ?_) (AllReadyH.nil)
      skip
      go_simp
      refine hK.out _ _ ?_ (fun hHeld => ?_)
      · (first | exact ⟨dx, dy⟩ | exact ⟨cx, cy⟩)
      clear hK K
      (try simp only [Act.put, List.setIfInBounds_toArray, List.set_cons_zero, List.set_cons_succ])
      refine wpAnyH_done (by kernel_rfl) ?_ _
      skip
      go_wp2_with fail
      exact ⟨⟨i + 1, _, by omega, by simp, HM3.out, HP3.out⟩, by simp [intOf]; omega⟩
    · have eg : decide (i < m) = false := by simpa using hlt
      have him : i = m := by omega
      have hfin : xs = unsortL b := by
        rw [Hres.out]
        rcases HOn.out with h | h
        · have := hPl.1
          rw [h] at this ⊢
          simp at this ⊢
          exact this
        · have hh : Placed L b xs b.length := by rw [← h.len, ← Hm.out, ← him]; exact hPl
          exact hh.full h
      have hxl : xs.length = m := by rw [hPl.1]; exact Hm.out.symm
      rw [hfin] at hM hxl
      have HM := Lib.hid hM; have Hxl := Lib.hid hxl
      clear hM hxl hPl hfin him
      go_wp2_with fail
      rw [HR.out]
      refine ⟨some ⟨g, 0, none⟩, m, by rw [Hxl.out]; rfl, ?_, HF2.out.trans HM.out.fr (by simp)⟩
      rw [Hxl.out]
      exact HM.out.src
end Go.Proofs.Ytednjpgibbnieaa

/-
  A number that an int can be. Plain: no program text.
-/
namespace Go.Proofs.Ytednjpgibbnieaa
def InI (x : Int) : Prop := -9223372036854775808 ≤ x ∧ x ≤ 9223372036854775807
end Go.Proofs.Ytednjpgibbnieaa

/-
  What the laws of layer 7 ask of package lift: contracts of its exported functions, by the plain blocks. No condition. And the live question, out of these.
-/
namespace Go.Proofs.Ytednjpgibbnieaa
open Go.RowKit

def Js (b : List Int) : Prop := ∀ i, i < b.length → InI (numAt b i)
/-- The lift's contracts. -/
structure LiftSpec : Prop where
  fwd : ∀ w (A : Option Addr) (c : Nat) (b : List Int), Src w (.slice A b.length c) (b.map I64) → b.length ≤ 1000 → Js b → Calls Try.prog 8 #[.slice A b.length c] w (NumErr w (liftF b))
  bck : ∀ w (A : Option Addr) (c : Nat) (b : List Int), Src w (.slice A b.length c) (b.map I64) → b.length ≤ 1000 → Js b → Calls Try.prog 10 #[.slice A b.length c] w (NumErr w (liftB b))
  order : ∀ w (n : Int), InI n → Calls Try.prog 15 #[.int .i64 n] w (NumsPost w (ints (orderL n)))
  sortN : ∀ w (A : Option Addr) (c : Nat) (b : List Int), Src w (.slice A b.length c) (b.map I64) → b.length ≤ 1000 → Js b → Calls Try.prog 13 #[.slice A b.length c] w (NumsNew w (sortL b))
  unsort : ∀ w (A : Option Addr) (c : Nat) (b : List Int), Src w (.slice A b.length c) (b.map I64) → b.length ≤ 1000 → Js b → Calls Try.prog 14 #[.slice A b.length c] w (NumsPost w (unsortL b))

theorem LiftSpec.sort (Z : LiftSpec) (w : World) (A : Option Addr) (c : Nat) (b : List Int) (hs : Src w (.slice A b.length c) (b.map I64)) (hb : b.length ≤ 1000) (hj : Js b) : Calls Try.prog 13 #[.slice A b.length c] w (NumsPost w (sortL b)) :=
  (Z.sortN w A c b hs hb hj).mono fun _ _ h => h.post

def b5L : List Int := 5 :: List.replicate 15 0
def x5L : List Int := [0, 0, 1, 0, 0, 1, 2, 0, 1, 2, 5, 0, 0, 0, 0, 0]
theorem live7_fwd : liftF b5L = (x5L, 0) := by decide +kernel
theorem live7_bck : liftB x5L = (b5L, 0) := by decide +kernel
theorem live7_o8 : (ints (orderL 8)).length = 64 := by decide +kernel
theorem live7_o4 : (ints (orderL 4)).length = 16 ∧ (ints (orderL 4)).getD 2 0 = 4 := by decide +kernel
theorem js_small {b : List Int} (h : b.all (fun v => decide (-1000 ≤ v) && decide (v ≤ 1000)) = true) : Js b := by
  intro i hi
  rw [List.all_eq_true] at h
  have := h b[i] (List.getElem_mem hi)
  unfold numAt
  rw [List.getD_eq_getElem?_getD, List.getElem?_eq_getElem hi]
  simp at this
  unfold InI
  simp
  omega

set_option maxRecDepth 20000 in
set_option maxHeartbeats 4000000 in
theorem alive7_any (Z : LiftSpec) (w : World) :
    Calls Try.prog 7 #[] w fun e w' => e = .returned (.bool true) ∧ Fr [] w w' := by
  have H1 := Lib.hid fun W A c (hs : Src W (.slice A b5L.length c) (b5L.map I64)) => (by have := Z.fwd W A c b5L hs (by decide) (js_small (by decide)); rwa [live7_fwd] at this : Calls Try.prog 8 #[.slice A b5L.length c] W (NumErr W (x5L, 0)))
  have H2 := Lib.hid fun W A c (hs : Src W (.slice A x5L.length c) (x5L.map I64)) => (by have := Z.bck W A c x5L hs (by decide) (js_small (by decide)); rwa [live7_bck] at this : Calls Try.prog 10 #[.slice A x5L.length c] W (NumErr W (b5L, 0)))
  have H3 := Lib.hid fun W => Z.order W 8 ⟨by omega, by omega⟩
  have H4 := Lib.hid fun W => Z.order W 4 ⟨by omega, by omega⟩
  obtain ⟨i0, hi0, hz0, hs0, hb0⟩ := info_parts info_num
  go_enter Try.func7, Try.ntmps7
  go_wp2_with (at_make; refine wpList_make_mine _ _ 22 3 i0 _ 8 _ _ 16 rfl rfl Try.underlying22 hi0 hz0 hs0 hb0 rfl rfl rfl (by omega) (by simp only [maxLen]; omega) ?_)
  intro w3 hO hF3 hlt3
  have hM : MineN w w3 (.slice (some ⟨w.heap.size, 0, none⟩) 16 16) (List.replicate 16 0) := by
    refine ⟨?_, hF3, fun k hk => ?_⟩
    · rw [List.map_replicate]; exact hO
    · have : w.heap.size = k := by simpa [Value.ownBlock] using hk
      omega
  obtain ⟨g, hg⟩ : ∃ g, g = w.heap.size := ⟨_, rfl⟩
  rw [← hg] at hM ⊢
  obtain ⟨g', hg', -, hgl, cz, fz, -, hst⟩ := hM.cell (j := 0) (by simp)
  have hge := Option.some.inj hg'
  injection hge with hge
  subst hge
  have hM5 : MineN w (w3.setCell ⟨g, 0, none⟩ (.int .i64 5)) (.slice (some ⟨g, 0, none⟩) b5L.length 16) b5L := hst 5
  have cz0 : w3.cell? ⟨g, 0, none⟩ = some (.int .i64 0) := cz
  have HM5 := Lib.hid hM5
  clear hO hF3 hlt3 hM hg cz hst hM5 hi0 hz0 hs0 hb0 hg'
  go_wp2_with fail
  refine (H1.out _ _ _ HM5.out.src).mono ?_
  rintro e w4 ⟨A4, c4, rfl, hs4, hf4⟩
  have HS4 := Lib.hid hs4; have HF4 := Lib.hid (HM5.out.fr.trans hf4 (by simp)); have HB4 := Lib.hid (HM5.out.src.fr0 hf4)
  clear hs4 hf4 H1 HM5 cz0 fz hgl
  rw [show ((x5L, (0 : Int)).1).length = 16 from rfl] at *
  go_wp2_with fail
  refine (H2.out _ _ _ HS4.out).mono ?_
  rintro e w5 ⟨A5, c5, rfl, hs5, hf5⟩
  have HS5 := Lib.hid hs5; have HF5 := Lib.hid (HF4.out.trans hf5 (by simp)); have HX5 := Lib.hid (HS4.out.fr0 hf5); have HB5 := Lib.hid (HB4.out.fr0 hf5)
  clear hs5 hf5 H2 HS4 HB4 HF4
  have hsm := rsame7_any A5 c5 b5L (some ⟨g, 0, none⟩) 16 b5L w5 HS5.out HB5.out (by decide) (by decide)
  rw [show decide (b5L = b5L) = true by simp, show b5L.length = 16 from rfl] at hsm
  rw [show ((b5L, (0 : Int)).1).length = 16 from rfl]
  have HSm := Lib.hid hsm
  clear hsm
  go_wp2_with fail
  refine HSm.out.mono ?_
  rintro e w6 ⟨rfl, hf6⟩
  have hx6 := HX5.out.fr0 hf6
  obtain ⟨a4, rfl, k0⟩ := hx6.num (k := 0) (by decide)
  have k2 := hx6.numS (k := 2) (by decide)
  have k10 := hx6.numS (k := 10) (by decide)
  rw [show x5L.getD 0 0 = 0 from rfl] at k0
  rw [show x5L.getD 2 0 = 1 from rfl] at k2
  rw [show x5L.getD 10 0 = 5 from rfl] at k10
  have k00 : w6.cell? a4 = some (.int .i64 0) := by simpa [Addr.add] using k0
  have k02 : w6.cell? ⟨a4.block, a4.off + 2, none⟩ = some (.int .i64 1) := k2
  have k010 : w6.cell? ⟨a4.block, a4.off + 10, none⟩ = some (.int .i64 5) := k10
  have HF6 := Lib.hid (HF5.out.trans hf6 (by simp))
  clear hf6 hx6 k0 k2 k10 HSm HX5 HB5 HS5 HF5
  go_wp2_with fail
  refine (H3.out _).mono ?_
  rintro e w7 ⟨A7, c7, rfl, hs7, hf7⟩
  rw [live7_o8]
  have HF7 := Lib.hid (HF6.out.trans hf7 (by simp))
  clear hs7 hf7 H3 HF6 k00 k02 k010
  go_wp2_with fail
  refine (H4.out _).mono ?_
  rintro e w8 ⟨A8, c8, rfl, hs8, hf8⟩
  rw [live7_o4.1] at hs8 ⊢
  obtain ⟨a8, rfl, m2⟩ := hs8.num (k := 2) (by rw [live7_o4.1]; omega)
  rw [live7_o4.2] at m2
  have m02 : w8.cell? ⟨a8.block, a8.off + 2, none⟩ = some (.int .i64 4) := m2
  clear m2
  have HF8 := Lib.hid (HF7.out.trans hf8 (by simp))
  clear hs8 hf8 H4 HF7
  go_wp2_with fail
  go_ret
  exact ⟨rfl, HF8.out⟩

/-- Numbers as an argument: each is an int. -/
theorem open_ints {H : Type} {enc : TypeId × Value → H} {w : World} {base : Nat} {spare : Nat → Bool} {held : Bool} {n : Nat} {v : Value} {d : DataW H} {ps : List MemPlace} (h : DataW.trod enc Try.prog w base spare held n 22 [v] = some (d, ps)) :
    ∃ (A : Option Addr) (len cap : Nat) (l : List Int), v = .slice A len cap ∧ l.length = len ∧ len ≤ maxLen ∧ Src w (.slice A len cap) (l.map I64) ∧ Js l := by
  have : Inhabited {x : Int // InI x} := ⟨⟨0, by unfold InI; omega⟩⟩
  obtain ⟨A, len, cap, l, hv, hl, hm, hs⟩ := open_cells (α := {x : Int // InI x}) (fun x => I64 x.1) Try.underlying22 (by kernel_rfl) (fun n' cs x hx => by
    obtain ⟨z, h0, -, v0⟩ := DataW.trod_int Try.underlying3 hx
    simp [Lit.wf, IntKind.min, IntKind.max, IntKind.signed, IntKind.bits] at v0
    exact ⟨⟨z, by unfold InI; omega⟩, h0⟩) h
  refine ⟨A, len, cap, l.map (·.1), hv, by rw [List.length_map, hl], hm, ?_, fun i hi => ?_⟩
  · rw [List.map_map]
    exact hs
  · rw [List.length_map] at hi
    unfold numAt
    rw [List.getD_eq_getElem?_getD, List.getElem?_map, List.getElem?_eq_getElem hi]
    exact (l[i]).2
end Go.Proofs.Ytednjpgibbnieaa
