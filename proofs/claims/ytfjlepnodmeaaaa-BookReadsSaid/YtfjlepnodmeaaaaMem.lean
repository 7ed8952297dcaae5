/-
  Memory: what a call leaves alone. No program text here.
-/
import Derived.WalkKit
import Derived.Deep.Draws
import Derived.Lib.Hide
import Derived.Laws.CopyOwn
namespace Go.Proofs.Ytfjlepnodmeaaaa
open Go.RowKit

/-- w' is w but for the blocks S and new blocks. -/
structure Fr (S : List Nat) (w w' : World) : Prop where
  os : w'.os = w.os
  tape : w'.tape = w.tape
  output : w'.output = w.output
  size : w.heap.size ≤ w'.heap.size
  block : ∀ k, k < w.heap.size → k ∉ S → w'.heap[k]? = w.heap[k]?

/-- A byte in a cell. -/
def B8 (x : UInt8) : Value := .int .u8 (x.toNat : Int)

/-- Block g is just the cells cs, of which none is frozen. -/
structure Blk (w : World) (g : Nat) (t : TypeId) (cs : Array Value) : Prop where
  here : w.heap[g]? = some (.cells cs t (0, 0))

section
variable {S S' : List Nat} {w w' a b c : World}
theorem Fr.refl (S : List Nat) (w : World) : Fr S w w := ⟨rfl, rfl, rfl, Nat.le_refl _, fun _ _ _ => rfl⟩
theorem Fr.trans (h : Fr S a b) (k : Fr S' b c) (hs : ∀ x ∈ S', x ∈ S ∨ a.heap.size ≤ x) : Fr S a c :=
  ⟨k.os.trans h.os, k.tape.trans h.tape, k.output.trans h.output, Nat.le_trans h.size k.size, fun i hi hn =>
    (k.block i (Nat.lt_of_lt_of_le hi h.size) (fun hm => by rcases hs i hm with h1 | h1; exact hn h1; omega)).trans (h.block i hi hn)⟩
theorem Fr.mono (h : Fr S a b) (hs : ∀ x ∈ S, x ∈ S' ∨ a.heap.size ≤ x) : Fr S' a b := (Fr.refl S' a).trans h hs
theorem Fr.drew (h : Fr S a w) : Fr S a w.drew := ⟨h.os, h.tape, h.output, h.size, h.block⟩
theorem Fr.drewN (h : Fr S a w) (n : Nat) : Fr S a (w.drewN n) := ⟨h.os, h.tape, h.output, h.size, h.block⟩
theorem Fr.alloc (h : Fr S a w) (o : Obj) : Fr S a (w.alloc o) :=
  h.trans (S' := []) ⟨rfl, rfl, rfl, by simp, fun k hk _ => Below.heap_alloc _ _ _ hk⟩ (by simp)
theorem Fr.setCell (h : Fr S a w) {p : Addr} (hp : p.block ∈ S ∨ a.heap.size ≤ p.block) (u : Value) : Fr S a (w.setCell p u) :=
  h.trans (S' := [p.block]) ⟨rfl, rfl, rfl, by simp [World.setCell], fun k _ hn => Below.heap_setCell _ _ _ _ (by simpa using hn)⟩ (by simpa using hp)
theorem Fr.grown (h : Fr S a w) {row : Option Nat} (hg : w.grownBy w' row) (hr : ∀ k, row = some k → k ∈ S ∨ a.heap.size ≤ k) : Fr S a w' :=
  h.trans (S' := row.toList) ⟨hg.os, hg.tape, hg.output, hg.size, fun k hk hn => hg.block k hk (by rintro rfl; simp at hn)⟩ (by
    intro x hx; cases row with
    | none => simp at hx
    | some k => simp at hx; subst hx; exact hr _ rfl)
theorem Fr.of_below (h : Below w.heap.size w w') (S : List Nat) : Fr S w w' := ⟨h.os, h.tape, h.output, h.size, fun k hk _ => h.block k hk⟩
theorem Fr.below {B : Nat} (h : Fr S w w') (hS : ∀ x ∈ S, B ≤ x) (hB : B ≤ w.heap.size) : Below B w w' :=
  ⟨h.os, h.tape, h.output, h.size, fun k hk => h.block k (by omega) (fun hm => by have := hS k hm; omega)⟩
theorem Fr.cell (h : Fr S w w') {p : Addr} (hp : p.block < w.heap.size) (hn : p.block ∉ S) : w'.cell? p = w.cell? p := World.cell?_of_block (h.block p.block hp hn)
theorem Fr.frozen (h : Fr S w w') {p : Addr} (hp : p.block < w.heap.size) (hn : p.block ∉ S) : w'.frozen? p = w.frozen? p := World.frozen?_of_block (h.block p.block hp hn)
end

section
variable {w w' : World} {g : Nat} {t : TypeId} {cs : Array Value}
theorem Blk.lt (h : Blk w g t cs) : g < w.heap.size := (Array.getElem?_eq_some_iff.1 h.here).1
theorem Blk.move (h : Blk w g t cs) (e : w'.heap[g]? = w.heap[g]?) : Blk w' g t cs := ⟨by rw [e, h.here]⟩
theorem Blk.cell (h : Blk w g t cs) (i : Nat) : w.cell? ⟨g, i, none⟩ = cs[i]? := by simp [World.cell?, h.here]
theorem Blk.frozen (h : Blk w g t cs) (i : Nat) : w.frozen? ⟨g, i, none⟩ = false := by simp [World.frozen?, h.here]
theorem Blk.new (w : World) (t : TypeId) (cs : Array Value) : Blk (w.alloc (.cells cs t)) w.heap.size t cs := ⟨heap_alloc_new w _⟩
theorem Blk.drew (h : Blk w g t cs) : Blk w.drew g t cs := ⟨h.here⟩
theorem Blk.drewN (h : Blk w g t cs) (n : Nat) : Blk (w.drewN n) g t cs := ⟨h.here⟩
theorem Blk.alloc (h : Blk w g t cs) (o : Obj) : Blk (w.alloc o) g t cs := h.move (Below.heap_alloc w o g h.lt)
theorem Blk.far (h : Blk w g t cs) {p : Addr} (hp : g ≠ p.block) (u : Value) : Blk (w.setCell p u) g t cs := h.move (Below.heap_setCell w p u g hp)
theorem Blk.set_ (h : Blk w g t cs) (i : Nat) (u : Value) : Blk (w.setCell ⟨g, i, none⟩ u) g t (cs.setIfInBounds i u) :=
  ⟨by simp only [World.setCell, Array.getElem?_modify, h.here]; rfl⟩
theorem Blk.fr {S : List Nat} (h : Blk w g t cs) (hf : Fr S w w') (hg : g ∉ S) : Blk w' g t cs := h.move (hf.block g h.lt hg)
end

/-- The slice value v holds the cells xs, in a row of its own (or it is nil). -/
def Own (w : World) (e : TypeId) (v : Value) (xs : List Value) : Prop := w.ownsRow 0 e 1 v xs.length xs

section
variable {w w' : World} {e : TypeId} {v : Value} {xs : List Value} {S : List Nat}
theorem Own.lt (h : Own w e v xs) : ∀ k, v.ownBlock = some k → k < w.heap.size := fun k hk => (World.ownsRow.lt h k hk).2
theorem Own.fr (h : Own w e v xs) (hf : Fr S w w') (hn : ∀ k, v.ownBlock = some k → k ∉ S) : Own w' e v xs := by
  refine ⟨h.1, ?_⟩
  rcases h.2 with h0 | ⟨g, cap, cur, rfl, hb, hgg, rest⟩
  · exact .inl h0
  · refine .inr ⟨g, cap, cur, rfl, hb, ?_, rest⟩
    rw [hf.block g (Array.getElem?_eq_some_iff.1 hgg).1 (hn g rfl)]
    exact hgg
theorem Own.form (h : Own w e v xs) : (v = .slice none 0 0 ∧ xs = []) ∨ ∃ g cap cur, v = .slice (some ⟨g, 0, none⟩) xs.length cap ∧ Blk w g e cur ∧ xs.length ≤ cap ∧ cap ≤ maxLen ∧ cur.size = cap ∧ cur.toList.take xs.length = xs := by
  rcases h.2 with ⟨h1, h2⟩ | ⟨g, cap, cur, h1, _, h3, h4, h5, h6, h7⟩
  · exact .inl ⟨h1, by simpa using h2⟩
  · exact .inr ⟨g, cap, cur, h1, ⟨h3⟩, h4, h5, by simpa using h6, by simpa using h7⟩
theorem Own.nil (w : World) (e : TypeId) : Own w e (.slice none 0 0) [] := World.ownsRow_nil w 0 e 1
theorem Own.drew (h : Own w e v xs) : Own w.drew e v xs := h
theorem Own.drewN (h : Own w e v xs) (n : Nat) : Own (w.drewN n) e v xs := h
theorem Own.alloc (h : Own w e v xs) (o : Obj) : Own (w.alloc o) e v xs := World.ownsRow.alloc h o
theorem Own.len_le (h : Own w e v xs) : xs.length ≤ maxLen := by
  rcases h.form with ⟨_, rfl⟩ | ⟨g, cap, cur, _, _, h1, h2, _⟩
  · simp
  · omega
theorem Own.slice {A : Option Addr} {n c : Nat} (h : Own w e (.slice A n c) xs) : n = xs.length := by
  rcases h.form with ⟨h1, rfl⟩ | ⟨g, cap, cur, h1, _⟩
  · injection h1
  · injection h1
theorem Own.cell {A : Option Addr} {n c : Nat} (h : Own w e (.slice A n c) xs) {j : Nat} (hj : j < xs.length) : ∃ g, A = some ⟨g, 0, none⟩ ∧ w.cell? ⟨g, j, none⟩ = xs[j]? ∧ w.frozen? ⟨g, j, none⟩ = false ∧ n = xs.length ∧ n ≤ c := by
  rcases h.form with ⟨h1, rfl⟩ | ⟨g, cap, cur, h1, hb, hc, _, hs, ht⟩
  · simp at hj
  · injection h1 with e1 e2 e3
    subst e1 e2 e3
    refine ⟨g, rfl, ?_, hb.frozen j, rfl, hc⟩
    rw [hb.cell, ← ht, List.getElem?_take, if_pos (by omega)]
    simp
theorem Own.at_ {g n c : Nat} (h : Own w e (.slice (some ⟨g, 0, none⟩) n c) xs) {j : Nat} (hj : j < xs.length) : w.cell? ⟨g, j, none⟩ = xs[j]? ∧ w.frozen? ⟨g, j, none⟩ = false ∧ g < w.heap.size := by
  obtain ⟨g', h1, h2, h3, -, -⟩ := h.cell hj
  injection h1 with h1
  injection h1 with h1
  subst h1
  exact ⟨h2, h3, h.lt g rfl⟩
theorem Own.last {i : Nat} (h : Own w e v xs) (hl : xs.length = i + 1) : ∃ g cap, v = .slice (some ⟨g, 0, none⟩) (i + 1) cap ∧ i + 1 ≤ cap ∧ w.cell? ⟨g, i, none⟩ = xs[i]? ∧ w.frozen? ⟨g, i, none⟩ = false ∧ g < w.heap.size := by
  rcases h.form with ⟨h1, rfl⟩ | ⟨g, cap, cur, rfl, hb, hc, _, hs, ht⟩
  · simp at hl
  · refine ⟨g, cap, by rw [hl], by omega, ?_, hb.frozen i, hb.lt⟩
    rw [hb.cell, ← ht, List.getElem?_take, if_pos (by omega)]
    simp
theorem Own.set {g n c : Nat} (h : Own w e (.slice (some ⟨g, 0, none⟩) n c) xs) (j : Nat) (u : Value) : Own (w.setCell ⟨g, j, none⟩ u) e (.slice (some ⟨g, 0, none⟩) n c) (xs.set j u) := by
  have hn := h.slice
  subst hn
  have := (World.ownsRow.stored h j u).1
  simpa [Own] using this
end


/-- The slice value src reads as the cells xs (nil let in). -/
def Src (w : World) (src : Value) (xs : List Value) : Prop :=
  (src = .slice none 0 0 ∧ xs = []) ∨ ∃ ad c, src = .slice (some ad) xs.length c ∧ xs.length ≤ c ∧ ∀ j u, xs[j]? = some u → w.cell? (ad.add j) = some u

/-- What was written is one slice's own row, or there is a new one. -/
def Own1 (v v' : Value) (w w' : World) : Prop := Fr v.ownBlock.toList w w' ∧ (v'.ownBlock = v.ownBlock ∨ ∃ g, v'.ownBlock = some g ∧ w.heap.size ≤ g)

theorem not_own {v : Value} {p : Nat} (h : v.ownBlock ≠ some p) : p ∉ v.ownBlock.toList := by
  cases hv : v.ownBlock with
  | none => simp
  | some k => rw [hv] at h; simp at h ⊢; omega

theorem add0 (g j : Nat) : (⟨g, 0, none⟩ : Addr).add j = ⟨g, j, none⟩ := by unfold Addr.add; split <;> simp_all

theorem Own.src {w : World} {e : TypeId} {v : Value} {xs : List Value} (h : Own w e v xs) : Src w v xs := by
  rcases h.form with h0 | ⟨g, cap, cur, h1, hb, h2, h3, h4, h5⟩
  · exact .inl h0
  · refine .inr ⟨⟨g, 0, none⟩, cap, h1, h2, fun j u hu => ?_⟩
    rw [add0, hb.cell]
    rw [← h5, List.getElem?_take] at hu
    split at hu
    · simpa using hu
    · cases hu

theorem addr_block (a : Addr) (n : Nat) : (a.add n).block = a.block := by by_cases h : n = 0 <;> simp [Addr.add, h]

theorem Src.fr {w w' : World} {S : List Nat} {src : Value} {xs : List Value} (h : Src w src xs) (hf : Fr S w w') (hS : ∀ k, src.ownBlock = some k → k ∉ S) : Src w' src xs := by
  rcases h with h | ⟨ad, c, rfl, hle, hc⟩
  · exact .inl h
  · refine .inr ⟨ad, c, rfl, hle, fun j u hu => ?_⟩
    have h1 := hc j u hu
    have h2 := World.block_lt_of_cell? w _ h1
    rw [hf.cell h2 (by rw [addr_block]; exact hS _ rfl)]
    exact h1
theorem Src.fr0 {w w' : World} {src : Value} {xs : List Value} (h : Src w src xs) (hf : Fr [] w w') : Src w' src xs := h.fr hf (by simp)

theorem addr_add_add (a : Addr) (m n : Nat) : (a.add m).add n = a.add (m + n) := by
  rcases Nat.eq_zero_or_pos m with rfl | hm
  · simp [Addr.add]
  · rcases Nat.eq_zero_or_pos n with rfl | hn
    · simp [Addr.add]
    · have h1 : m ≠ 0 := by omega
      have h2 : n ≠ 0 := by omega
      simp [Addr.add, h1, h2, Nat.add_assoc]

theorem Src.drop {w : World} {A : Option Addr} {n c k : Nat} {xs : List Value} (h : Src w (.slice A n c) xs) (hk : k ≤ n) :
    Src w (.slice (if c = k then A else A.map (·.add k)) (n - k) (c - k)) (xs.drop k) := by
  rcases h with ⟨h1, rfl⟩ | ⟨ad, c', h1, hle, hc⟩
  · injection h1 with e1 e2 e3
    subst e1 e2 e3
    obtain rfl : k = 0 := by omega
    exact .inl ⟨by simp, by simp⟩
  · injection h1 with e1 e2 e3
    subst e1 e2 e3
    by_cases hk2 : c = k
    · rw [if_pos hk2]
      refine .inr ⟨ad, c - k, by simp, by simp; omega, fun j u hu => ?_⟩
      rw [List.drop_of_length_le (by omega)] at hu
      cases hu
    · rw [if_neg hk2]
      refine .inr ⟨ad.add k, c - k, by simp, by simp; omega, fun j u hu => ?_⟩
      rw [List.getElem?_drop] at hu
      rw [addr_add_add]
      exact hc (k + j) u hu

theorem Src.drewN {w : World} {src : Value} {xs : List Value} (h : Src w src xs) (n : Nat) : Src (w.drewN n) src xs := h
theorem Src.drew {w : World} {src : Value} {xs : List Value} (h : Src w src xs) : Src w.drew src xs := h

theorem Src.one {w : World} {g : Nat} {u : Value} (h : w.cell? ⟨g, 0, none⟩ = some u) : Src w (.slice (some ⟨g, 0, none⟩) 1 1) [u] := by
  refine .inr ⟨⟨g, 0, none⟩, 1, rfl, Nat.le_refl _, fun j u' hu => ?_⟩
  cases j with
  | zero => rw [add0]; simp at hu; subst hu; exact h
  | succ j => simp at hu

theorem run_append_mine {P : Program} (w : World) (t ty e : TypeId) (i : TypeInfo) (z : Value) (bytes : Nat) (ht : P.underlying t = some (.slice e)) (hi : P.info? e = some i) (hz : i.zero = some z)
    (hsize : i.size = 1) (hby : i.bytes = bytes) (hzs : z.cells.size = 1) (v : Value) (xs : List Value) (hown : Own w e v xs) (src : Value) (news : List Value) (hs : Src w src news) (h1 : ∀ u ∈ news, u.oneCell' = true)
    (h63 : xs.length + news.length ≤ maxLen) (hbytes : (xs.length + news.length) * bytes ≤ 140737488355328) :
    ∃ v' w', (Builtin.append_ #[t, t] ty #[v, src]).run P w = .ok v' w' ∧ Own w' e v' (xs ++ news) ∧ Own1 v v' w w' := by
  rcases hs with ⟨rfl, rfl⟩ | ⟨ad, c, rfl, -, hn⟩
  · exact ⟨v, w, run_append_owned_none w 0 t ty e i 1 ht hi v _ xs hown, by simpa using hown, Fr.refl _ _, .inl rfl⟩
  · obtain ⟨v', w', hr, h2, h3, h4⟩ := run_append_own (P := P) w 0 t ty e i z 1 bytes ht hi hz hsize hby hzs (by omega) v xs.length xs hown ad news.length c news (by simp) hn h1 h63 hbytes (by omega)
    have hO : Own w' e v' (xs ++ news) := by unfold Own; simpa using h2
    have hF : Fr v.ownBlock.toList w w' := (Fr.refl _ _).grown h3 (fun k hk => .inl (by simp [hk]))
    refine ⟨v', w', hr, hO, hF, ?_⟩
    rcases hown.form with ⟨rfl, rfl⟩ | ⟨g, cap, cur, rfl, hb, hc1, hc2, hc3, hc4⟩
    · obtain ⟨v2, w2, hr2, h22, -, -⟩ := run_append_own (P := P) w w.heap.size t ty e i z 1 bytes ht hi hz hsize hby hzs (by omega) (.slice none 0 0) 0 [] (World.ownsRow_nil w _ e 1) ad news.length c news (by simp) hn h1 (by simpa using h63) (by simpa using hbytes) (Nat.le_refl _)
      rw [hr] at hr2
      injection hr2 with e1 e2
      subst e1 e2
      cases hv : v'.ownBlock with
      | none => exact .inl rfl
      | some k => exact .inr ⟨k, rfl, (h22.lt k hv).1⟩
    · by_cases hroom : xs.length + news.length ≤ cap
      · have hr2 := run_append_room (P := P) w t ty e i ht hi g xs.length cap cur hb.here ad news.length c news (by simp [hsize]) hn h1 hroom (by simp [hsize]; omega)
        rw [hr] at hr2
        injection hr2 with e1 e2
        subst e1
        exact .inl rfl
      · have hcell : ∀ j u, xs[j]? = some u → w.cell? ((⟨g, 0, none⟩ : Addr).add j) = some u := World.ownsRow.cells hown (g := g) rfl
        have hr2 := run_append_grow (P := P) w t ty e i z ht hi hz ⟨g, 0, none⟩ xs.length cap xs (by simp [hsize]) hcell ad news.length c news (by simp [hsize]) hn (by omega) (by simp only [maxLen] at h63; omega) (growslice_fits (by omega) (by rw [hby]; exact hbytes))
        rw [hr] at hr2
        injection hr2 with e1 e2
        subst e1
        exact .inr ⟨_, rfl, Nat.le_refl _⟩

theorem wpList_append_mine {P : Program} {w : World} {ops : Array Oper} {rest : List Oper} {o : Oper} {a : Act} {Q : Exit → Act → World → Prop} (s x : Operand) (t e : TypeId) (i : TypeInfo) (z : Value) (bytes : Nat)
    (hgd : o.guard = none) (ho : o.op = .call { callee := .builtin .append, args := #[s, x], argTypes := #[t, t] })
    (ht : P.underlying t = some (.slice e)) (hi : P.info? e = some i) (hz : i.zero = some z)
    (hsize : i.size = 1) (hby : i.bytes = bytes) (hzs : z.cells.size = 1) (v : Value) (xs : List Value) (src : Value) (news : List Value) (hv : a.eval s = v) (hsv : a.eval x = src)
    (hown : Own w e v xs) (hs : Src w src news) (h1 : ∀ u ∈ news, u.oneCell' = true)
    (h63 : xs.length + news.length ≤ maxLen) (hbytes : (xs.length + news.length) * bytes ≤ 140737488355328)
    (h : ∀ v' w', Own w' e v' (xs ++ news) → Own1 v v' w w' → wpList P ops Q rest (a.put o.dst v') w') : wpList P ops Q (o :: rest) a w := by
  refine wpList_plain hgd fun _ hK => ?_
  obtain ⟨v', w', hr, h2, h3⟩ := run_append_mine (P := P) w t o.type e i z bytes ht hi hz hsize hby hzs v xs hown src news hs h1 h63 hbytes
  unfold Oper.wp execOp
  simp only [ho, resolve, invoke, builtin, Sem.run_bind, Sem.run_pure, Result.andThen_ok, List.map_toArray, List.map_cons, List.map_nil, hv, hsv, hr]
  exact hK _ _ (h v' w' h2 h3)

theorem wp_append_mine {P : Program} {w : World} {o : Oper} {a : Act} {K : Act → World → Prop} {Q : Exit → Act → World → Prop} (s x : Operand) (t e : TypeId) (i : TypeInfo) (z : Value) (bytes : Nat)
    (ho : o.op = .call { callee := .builtin .append, args := #[s, x], argTypes := #[t, t] })
    (ht : P.underlying t = some (.slice e)) (hi : P.info? e = some i) (hz : i.zero = some z)
    (hsize : i.size = 1) (hby : i.bytes = bytes) (hzs : z.cells.size = 1) (v : Value) (xs : List Value) (src : Value) (news : List Value) (hv : a.eval s = v) (hsv : a.eval x = src)
    (hown : Own w e v xs) (hs : Src w src news) (h1 : ∀ u ∈ news, u.oneCell' = true)
    (h63 : xs.length + news.length ≤ maxLen) (hbytes : (xs.length + news.length) * bytes ≤ 140737488355328)
    (h : ∀ A c w', Own w' e (.slice A (xs.length + news.length) c) (xs ++ news) → Own1 v (.slice A (xs.length + news.length) c) w w' → K (a.put o.dst (.slice A (xs.length + news.length) c)) w') : o.wp P a w K Q := by
  obtain ⟨v', w', hr, h2, h3⟩ := run_append_mine (P := P) w t o.type e i z bytes ht hi hz hsize hby hzs v xs hown src news hs h1 h63 hbytes
  obtain ⟨A, c, rfl⟩ : ∃ A c, v' = .slice A (xs.length + news.length) c := by
    rcases h2.form with ⟨rfl, h0⟩ | ⟨g, cap, cur, rfl, -⟩
    · exact ⟨_, _, by have := congrArg List.length h0; simp only [List.length_append, List.length_nil] at this; rw [this]⟩
    · exact ⟨_, _, by rw [List.length_append]⟩
  unfold Oper.wp execOp
  simp only [ho, resolve, invoke, builtin, Sem.run_bind, Sem.run_pure, Result.andThen_ok, List.map_toArray, List.map_cons, List.map_nil, hv, hsv, hr]
  exact h A c w' h2 h3

theorem own_of_setRow {w : World} {e : TypeId} {g cap : Nat} {cur : Array Value} {n : Nat} (hb : Blk w g e cur) (hn : n ≤ cap) (hm : cap ≤ maxLen) (zs : List Value) (hz : zs.length = cap) :
    Own (w.setRow g zs.toArray) e (.slice (some ⟨g, 0, none⟩) n cap) (zs.take n) := by
  have hl : (zs.take n).length = n := by simp; omega
  refine ⟨by simp, .inr ⟨g, cap, zs.toArray, by rw [hl], Nat.zero_le _, setRow_heap w g cur _ e _ hb.here, by rw [hl]; exact hn, hm, by simp [hz], ?_⟩⟩
  rw [hl]; simp

theorem wpList_copy_mine {P : Program} {w : World} {ops : Array Oper} {rest : List Oper} {o : Oper} {a : Act} {Q : Exit → Act → World → Prop} (d s : Operand) (t t' e : TypeId)
    (hgd : o.guard = none) (ho : o.op = .call { callee := .builtin .copy, args := #[d, s], argTypes := #[t, t'] })
    (ht : P.underlying t = some (.slice e)) (hsz : (P.info? e).map (·.size) = some 1) (v src : Value) (ys xs : List Value) (hv : a.eval d = v) (hsv : a.eval s = src)
    (hown : Own w e v ys) (hs : Src w src xs) (h1 : ∀ u ∈ xs, u.oneCell' = true)
    (h : ∀ w', Own w' e v (xs.take ys.length ++ ys.drop xs.length) → Fr v.ownBlock.toList w w' → wpList P ops Q rest (a.put o.dst (goInt (min xs.length ys.length : Nat))) w') : wpList P ops Q (o :: rest) a w := by
  by_cases h0 : xs.length = 0 ∨ ys.length = 0
  · have hres : xs.take ys.length ++ ys.drop xs.length = ys := by
      rcases h0 with h0 | h0
      · simp [List.eq_nil_of_length_eq_zero h0]
      · simp [List.eq_nil_of_length_eq_zero h0]
    have hmin : (min xs.length ys.length : Nat) = 0 := by omega
    have hk := h w (by rw [hres]; exact hown) (Fr.refl _ _)
    rw [hmin] at hk
    obtain ⟨dp, dc, rfl⟩ : ∃ dp dc, v = .slice dp ys.length dc := by
      rcases hown.form with ⟨rfl, rfl⟩ | ⟨g, cap, cur, rfl, -⟩
      · exact ⟨_, _, rfl⟩
      · exact ⟨_, _, rfl⟩
    obtain ⟨sp, sc, rfl⟩ : ∃ sp sc, src = .slice sp xs.length sc := by
      rcases hs with ⟨rfl, rfl⟩ | ⟨ad, c, rfl, -⟩
      · exact ⟨_, _, rfl⟩
      · exact ⟨_, _, rfl⟩
    exact wpList_copy_nothing hgd d s t t' ho e ht hsz dp sp _ dc _ sc hv hsv hmin hk
  · rcases hown.form with ⟨rfl, rfl⟩ | ⟨g, cap, cur, rfl, hb, hc, hm, hcs, hct⟩
    · simp at h0
    rcases hs with ⟨rfl, rfl⟩ | ⟨ad, c, rfl, -, hcell⟩
    · simp at h0
    have hl : (xs.take ys.length).length = Nat.min xs.length ys.length := by rw [List.length_take, Nat.min_comm]
    refine wpList_copy_own hgd d s t t' ho e ht hsz g 0 _ _ ad _ _ hv hsv cur e hb.here (xs.take ys.length) hl ?_ ?_ ?_ ?_
    · intro j u hu
      refine hcell j u ?_
      rw [List.getElem?_take] at hu
      split at hu
      · exact hu
      · cases hu
    · simp; omega
    · exact fun u hu => h1 u (List.mem_of_mem_take hu)
    · have hO := own_of_setRow (n := ys.length) hb hc hm (cur.toList.take 0 ++ (xs.take ys.length ++ cur.toList.drop (0 + (xs.take ys.length).length))) (by simp; omega)
      have e1 : (cur.toList.take 0 ++ (xs.take ys.length ++ cur.toList.drop (0 + (xs.take ys.length).length))).take ys.length = xs.take ys.length ++ ys.drop xs.length := by
        simp only [List.take_zero, List.nil_append, Nat.zero_add, List.length_take]
        apply List.ext_getElem?
        intro j
        have hy : ∀ j, j < ys.length → cur[j]? = ys[j]? := fun j hj => by rw [← hct, List.getElem?_take, if_pos (by simpa using hj)]; simp
        simp only [List.getElem?_take, List.getElem?_append, List.length_take, List.getElem?_drop]
        by_cases hj : j < ys.length
        · by_cases hj2 : j < xs.length
          · have h3 : j < min ys.length xs.length := by omega
            simp [hj, h3]
          · have : ¬ j < min ys.length xs.length := by omega
            simp only [hj, if_true, this, if_false]
            rw [show xs.length + (j - min ys.length xs.length) = j by omega, show min ys.length xs.length + (j - min ys.length xs.length) = j by omega]
            simpa using hy j hj
        · simp only [hj, if_false]
          rw [if_neg (by omega), List.getElem?_eq_none (by omega)]
      rw [e1] at hO
      have := h _ hO ((Fr.refl _ _).grown (row := some g) ⟨rfl, rfl, rfl, by simp, fun k _ hk => setRow_other w g k _ (fun e => hk (by simp [e]))⟩ (fun k hk => .inl (by simpa [Value.ownBlock] using hk.symm)))
      have e2 : ((xs.take ys.length).length : Int) = ((min xs.length ys.length : Nat) : Int) := by simp [Nat.min_comm]
      rw [e2]
      exact this

theorem wpList_make_mine {P : Program} {w : World} {ops : Array Oper} {rest : List Oper} {o : Oper} {a : Act} {Q : Exit → Act → World → Prop} (l c : Operand) (t e : TypeId) (i : TypeInfo) (z : Value) (bytes : Nat) (kl kc : IntKind) (n : Nat)
    (hgd : o.guard = none) (hop : o.op = Op.makeSlice t l c) (h1 : P.underlying t = some (.slice e)) (h2 : P.info? e = some i) (h3 : i.zero = some z) (h4 : i.size = 1) (h5 : i.bytes = bytes) (h6 : z.cells = #[z])
    (hl : a.eval l = .int kl (n : Int)) (hc : a.eval c = .int kc (n : Int)) (b2 : bytes * n ≤ 281474976710656) (b3 : n ≤ maxLen)
    (h : ∀ w', Own w' e (.slice (some ⟨w.heap.size, 0, none⟩) n n) (List.replicate n z) → Fr [] w w' → w.heap.size < w'.heap.size → wpList P ops Q rest (a.put o.dst (.slice (some ⟨w.heap.size, 0, none⟩) n n)) w') : wpList P ops Q (o :: rest) a w := by
  refine wpList_make_full w hgd l c t hop 0 e i z 1 h1 h2 h3 h4 kl kc n n n hl hc rfl rfl (by rw [h5]; exact b2) b3 (Nat.zero_le _) fun w' hO hG => ?_
  have hO' : Own w' e (.slice (some ⟨w.heap.size, 0, none⟩) n n) (List.replicate n z) := by
    rw [h6, Nat.mul_one, toList_madeCells_one] at hO
    unfold Own
    rw [List.length_replicate]
    exact hO
  exact h w' hO' ((Fr.refl _ _).grown hG (fun k hk => by cases hk)) (hO'.lt _ rfl)

theorem Own.lit (w : World) (e : TypeId) (cs : Array Value) (n : Nat) (hn : cs.size = n) (hm : n ≤ maxLen) : Own (w.alloc (.cells cs e)) e (.slice (some ⟨w.heap.size, 0, none⟩) n n) cs.toList := by
  have h := World.ownsRow_lit (base := 0) (e := e) (size := 1) w cs n (Nat.zero_le _) hm (by omega)
  unfold Own
  rw [Array.length_toList, hn]
  exact h
end Go.Proofs.Ytfjlepnodmeaaaa
