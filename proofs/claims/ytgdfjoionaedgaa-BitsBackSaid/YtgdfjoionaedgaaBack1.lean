/-
  What a row of acts puts, and a list of acts that a call owns: facts for the law BitsBack; no condition.
-/
import Derived.Test.YtgdfjoionaedgaaBits8
import Derived.Test.YtgdfjoionaedgaaActs
import Derived.Maps.AppendAt
namespace Go.Proofs.Ytgdfjoionaedgaa
open Go.RowKit

/-- The bits behind one more act. -/
def stepBits (L : List Bool) (x : Int × Int × Nat) : List Bool := if x.1 = 1 then L ++ digits x.2.2 x.2.1.toNat else walg L
/-- The bits of acts. -/
def bitsOf (l : List (Int × Int × Nat)) : List Bool := l.foldl stepBits []
/-- An act that is done. -/
def FitAct (x : Int × Int × Nat) : Prop := (x.1 = 1 ∧ 0 ≤ x.2.1 ∧ x.2.1 ≤ 64 ∧ x.2.2 < 2 ^ x.2.1.toNat) ∨ x.1 = 2

theorem bitsOf_append (l : List (Int × Int × Nat)) (x : Int × Int × Nat) : bitsOf (l ++ [x]) = stepBits (bitsOf l) x := by
  unfold bitsOf; rw [List.foldl_append]; rfl
theorem stepBits_more (L : List Bool) (x : Int × Int × Nat) : ∃ m, stepBits L x = L ++ m := by
  unfold stepBits walg; split <;> exact ⟨_, rfl⟩
theorem foldl_more : ∀ (l : List (Int × Int × Nat)) (L : List Bool), ∃ m, l.foldl stepBits L = L ++ m
  | [], L => ⟨[], by simp⟩
  | x :: l, L => by
    obtain ⟨m, hm⟩ := stepBits_more L x
    obtain ⟨m', hm'⟩ := foldl_more l (stepBits L x)
    exact ⟨m ++ m', by rw [List.foldl_cons, hm', hm, List.append_assoc]⟩
theorem bitsOf_take (l : List (Int × Int × Nat)) (j : Nat) : ∃ m, bitsOf l = bitsOf (l.take j) ++ m := by
  obtain ⟨m, hm⟩ := foldl_more (l.drop j) (bitsOf (l.take j))
  refine ⟨m, ?_⟩
  rw [← hm]
  unfold bitsOf
  rw [← List.foldl_append, List.take_append_drop]
theorem bitsOf_succ (l : List (Int × Int × Nat)) (j : Nat) (x : Int × Int × Nat) (h : l[j]? = some x) : bitsOf (l.take (j + 1)) = stepBits (bitsOf (l.take j)) x := by
  rw [← bitsOf_append]
  congr 1
  rw [List.take_add_one, h]; rfl

theorem PackOf.split {bs : List UInt8} {l : List Bool} (h : PackOf bs l) : rowOf bs = l ++ List.replicate (8 * bs.length - l.length) false := by
  have h1 := h.1
  apply ext_getD
  · rw [rowOf_length, List.length_append, List.length_replicate]; omega
  · intro j
    rw [rowOf_getD, h.2, getD_append']
    split
    · rfl
    · rename_i hj
      rw [List.getD_eq_getElem?_getD, List.getElem?_eq_none (by omega), List.getD_eq_getElem?_getD]
      by_cases h2 : j - l.length < 8 * bs.length - l.length
      · rw [List.getElem?_replicate, if_pos h2]; rfl
      · rw [List.getElem?_eq_none (by simpa using h2)]

theorem number_none (k : Nat) : number (List.replicate k false) = 0 := (number_zero_iff _).2 (fun b hb => List.eq_of_mem_replicate hb)

/-- The next act's bits are what is got there. -/
theorem PackOf.next {bs : List UInt8} {l : List Bool} {A m t : List Bool} (h : PackOf bs l) (hl : l = (A ++ m) ++ t) : ((rowOf bs).drop A.length).take m.length = m ∧ A.length + m.length ≤ 8 * bs.length := by
  have h1 := h.1
  have h2 : l.length = A.length + m.length + t.length := by rw [hl]; simp; omega
  refine ⟨?_, by omega⟩
  rw [h.split, hl, List.append_assoc, List.append_assoc, List.drop_left, List.take_left]

theorem back_put {bs : List UInt8} {acts : List (Int × Int × Nat)} {j : Nat} {n : Int} {y : Nat} (h : PackOf bs (bitsOf acts)) (hj : acts[j]? = some (1, n, y)) (hf : FitAct (1, n, y)) :
    ∃ k : Nat, n = (k : Int) ∧ k ≤ 64 ∧ (bitsOf (acts.take j)).length + k ≤ 8 * bs.length ∧ number (((rowOf bs).drop (bitsOf (acts.take j)).length).take k) = y ∧ (bitsOf (acts.take (j + 1))).length = (bitsOf (acts.take j)).length + k := by
  obtain ⟨-, h0, h64, hy⟩ | h2 := hf
  · obtain ⟨k, rfl⟩ := Int.eq_ofNat_of_zero_le h0
    have e := bitsOf_succ acts j _ hj
    obtain ⟨t, ht⟩ := bitsOf_take acts (j + 1)
    rw [e] at ht
    simp only [stepBits, if_true, Int.toNat_natCast] at ht e hy h64
    have hn := h.next ht
    rw [digits_length] at hn
    refine ⟨k, rfl, by omega, hn.2, ?_, by rw [e]; simp⟩
    rw [hn.1]
    exact number_digits_lt hy
  · simp at h2

theorem back_align {bs : List UInt8} {acts : List (Int × Int × Nat)} {j : Nat} {n : Int} {y : Nat} (h : PackOf bs (bitsOf acts)) (hj : acts[j]? = some (2, n, y)) :
    ralg (rowOf bs) (bitsOf (acts.take j)).length = (0, (bitsOf (acts.take (j + 1))).length) ∧ (bitsOf (acts.take (j + 1))).length % 8 = 0 := by
  have e := bitsOf_succ acts j _ hj
  obtain ⟨t, ht⟩ := bitsOf_take acts (j + 1)
  rw [e] at ht
  rw [show stepBits (bitsOf (acts.take j)) (2, n, y) = walg (bitsOf (acts.take j)) from rfl] at ht e
  unfold walg at ht e
  have hn := (h.next ht).1
  rw [List.length_replicate] at hn
  refine ⟨?_, by rw [e]; simp; omega⟩
  unfold ralg
  rw [hn, number_none, if_pos rfl, e]
  simp

theorem back_end {bs : List UInt8} {L : List Bool} (h : PackOf bs L) : ralg (rowOf bs) L.length = (0, 8 * bs.length) ∧ 8 * bs.length - L.length < 8 ∧ L.length ≤ 8 * bs.length := by
  have h1 := h.1
  have h2 : 8 * bs.length = L.length + (8 - L.length % 8) % 8 := by omega
  refine ⟨?_, by omega, by omega⟩
  unfold ralg
  rw [h.split, List.drop_left, List.take_replicate, number_none, if_pos rfl, h2]

/-- The cells of acts. -/
def flat (acts : List (Int × Int × Nat)) : List Value := acts.flatMap fun x => [.int .i64 x.1, .int .i64 x.2.1, .int .u64 (x.2.2 : Int)]
theorem flat_get : ∀ (acts : List (Int × Int × Nat)) (j : Nat) (k n : Int) (y : Nat), acts[j]? = some (k, n, y) →
    (flat acts)[j * 3]? = some (.int .i64 k) ∧ (flat acts)[j * 3 + 1]? = some (.int .i64 n) ∧ (flat acts)[j * 3 + 2]? = some (.int .u64 (y : Int))
  | [], j, k, n, y, h => by simp at h
  | x :: l, 0, k, n, y, h => by
    simp at h; subst h
    simp [flat]
  | x :: l, j + 1, k, n, y, h => by
    have := flat_get l j k n y (by simpa using h)
    simp only [flat] at this
    simp only [flat, List.flatMap_cons, List.cons_append, List.nil_append]
    rw [show (j + 1) * 3 = j * 3 + 3 by omega]
    simpa using this
theorem flat_length (acts : List (Int × Int × Nat)) : (flat acts).length = acts.length * 3 := by
  induction acts with
  | nil => rfl
  | cons x l ih => simp only [flat, List.flatMap_cons, List.length_append, List.length_cons, List.length_nil] at ih ⊢; omega

/-- A slice of the call's own that holds acts, in memory from b on. -/
def Row3 (b : Nat) (w : World) (v : Value) (acts : List (Int × Int × Nat)) : Prop := w.ownsRow b 31 3 v acts.length (flat acts)

section
variable {b : Nat} {w w' : World} {v : Value} {acts : List (Int × Int × Nat)} {S : List Nat}
theorem Row3.nil (b : Nat) (w : World) : Row3 b w (.slice none 0 0) [] := World.ownsRow_nil w b _ 3
theorem Row3.lt (h : Row3 b w v acts) : ∀ k, v.ownBlock = some k → b ≤ k ∧ k < w.heap.size := World.ownsRow.lt h
theorem Row3.form (h : Row3 b w v acts) : (v = .slice none 0 0 ∧ acts = []) ∨ ∃ g cap cur, v = .slice (some ⟨g, 0, none⟩) acts.length cap ∧ Blk w g 31 cur ∧ acts.length ≤ cap ∧ cap ≤ maxLen ∧ cur.toList.take (acts.length * 3) = flat acts := by
  rcases h.2 with ⟨h1, h2⟩ | ⟨g, cap, cur, h1, _, h3, h4, h5, h6, h7⟩
  · exact .inl ⟨h1, List.eq_nil_of_length_eq_zero h2⟩
  · exact .inr ⟨g, cap, cur, h1, ⟨h3⟩, h4, h5, h7⟩
theorem Row3.fr (h : Row3 b w v acts) (hf : Fr S w w') (hn : ∀ k, v.ownBlock = some k → k ∉ S) : Row3 b w' v acts := by
  refine ⟨h.1, ?_⟩
  rcases h.2 with h0 | ⟨g, cap, cur, rfl, hb, hgg, rest⟩
  · exact .inl h0
  · refine .inr ⟨g, cap, cur, rfl, hb, ?_, rest⟩
    rw [hf.block g (Array.getElem?_eq_some_iff.1 hgg).1 (hn g rfl)]
    exact hgg
theorem Row3.fr0 (h : Row3 b w v acts) (hf : Fr [] w w') : Row3 b w' v acts := h.fr hf (by simp)
theorem Row3.slice (h : Row3 b w v acts) : ∃ A c, v = .slice A acts.length c := by
  rcases h.form with ⟨rfl, rfl⟩ | ⟨g, cap, cur, rfl, -⟩
  · exact ⟨_, _, rfl⟩
  · exact ⟨_, _, rfl⟩
theorem Row3.at_ {A : Option Addr} {n c j : Nat} {k m : Int} {y : Nat} (h : Row3 b w (.slice A n c) acts) (hj : acts[j]? = some (k, m, y)) : ∃ g, A = some ⟨g, 0, none⟩ ∧ n = acts.length ∧ n ≤ c ∧
    w.cell? ⟨g, j * 3, none⟩ = some (.int .i64 k) ∧ w.cell? ⟨g, j * 3 + 1, none⟩ = some (.int .i64 m) ∧ w.cell? ⟨g, j * 3 + 2, none⟩ = some (.int .u64 (y : Int)) := by
  rcases h.form with ⟨h1, rfl⟩ | ⟨g, cap, cur, h1, hb, hc, _, ht⟩
  · simp at hj
  · injection h1 with e1 e2 e3
    subst e1 e2 e3
    obtain ⟨f0, f1, f2⟩ := flat_get acts j k m y hj
    have hl : j < acts.length := (List.getElem?_eq_some_iff.1 hj).1
    rw [← ht, List.getElem?_take, if_pos (by omega)] at f0 f1 f2
    exact ⟨g, rfl, rfl, hc, by rw [hb.cell]; simpa using f0, by rw [hb.cell]; simpa using f1, by rw [hb.cell]; simpa using f2⟩
theorem Blk.type_eq {g : Nat} {t t' : TypeId} {cs cs' : Array Value} (h : Blk w g t cs) (h' : Blk w g t' cs') : t = t' := by
  have := h.here.symm.trans h'.here
  injection this with this
  injection this
theorem Row3.apartW {p : Nat} {u : Value} {L : List Bool} (h : Row3 b w v acts) (hW : Wr w p u L) : ∀ k, v.ownBlock = some k → k ∉ p :: u.ownBlock.toList := by
  intro k hk hm
  rcases h.form with ⟨rfl, -⟩ | ⟨g, cap, cur, rfl, hb, -⟩
  · simp [Value.ownBlock] at hk
  · simp [Value.ownBlock] at hk
    subst hk
    obtain ⟨bs, hB, hO, -, -⟩ := hW
    rcases List.mem_cons.1 hm with rfl | hm
    · exact absurd (hb.type_eq hB) (by decide)
    · rcases hO.form with ⟨rfl, -⟩ | ⟨g', cap', cur', rfl, hb', -⟩
      · simp [Value.ownBlock] at hm
      · simp [Value.ownBlock] at hm
        subst hm
        exact absurd (hb.type_eq hb') (by decide)
theorem Row3.apartR {q a : Nat} {u : Value} {bs : List UInt8} (h : Row3 b w v acts) (hR : Rd w q u bs a) : ∀ k, v.ownBlock = some k → k ∉ [q] := by
  intro k hk hm
  rcases h.form with ⟨rfl, -⟩ | ⟨g, cap, cur, rfl, hb, -⟩
  · simp [Value.ownBlock] at hk
  · simp [Value.ownBlock] at hk
    subst hk
    simp at hm
    subst hm
    exact absurd (hb.type_eq hR.1) (by decide)
theorem Row3.backW {p : Nat} {u : Value} {L : List Bool} (h : Row3 b w v acts) (hW : Wr w p u L) : p ∉ v.ownBlock.toList ∧ ∀ k, u.ownBlock = some k → k ∉ v.ownBlock.toList := by
  have h1 := h.apartW hW
  refine ⟨fun hm => h1 p (by simpa using hm) (List.mem_cons_self ..), fun k hk hm => h1 k (by simpa using hm) (List.mem_cons_of_mem _ (by simpa using hk))⟩
end

theorem info_act : (Try.prog.info? 31).map (fun i => (i.zero, i.size, i.bytes)) = some (some (.agg #[.int .i64 0, .int .i64 0, .int .u64 0]), 3, 24) := by kernel_rfl

/-- append of one act onto acts of the call's own. -/
theorem wp_append_act {w : World} {ops : Array Oper} {rest : List Oper} {o : Oper} {a : Act} {Q : Exit → Act → World → Prop} (b : Nat) (s x : Operand) (v : Value) (acts : List (Int × Int × Nat)) (k m : Int) (y g c : Nat)
    (hgd : o.guard = none) (ho : o.op = .call { callee := .builtin .append, args := #[s, x], argTypes := #[22, 22] })
    (hv : a.eval s = v) (hx : a.eval x = .slice (some ⟨g, 0, none⟩) 1 c) (hown : Row3 b w v acts)
    (h0 : w.cell? ⟨g, 0, none⟩ = some (.int .i64 k)) (h1 : w.cell? ⟨g, 1, none⟩ = some (.int .i64 m)) (h2 : w.cell? ⟨g, 2, none⟩ = some (.int .u64 (y : Int))) (hlen : acts.length ≤ 1000000) (hb : b ≤ w.heap.size)
    (h : ∀ v' w', Row3 b w' v' (acts ++ [(k, m, y)]) → Fr v.ownBlock.toList w w' → wpList Try.prog ops Q rest (a.put o.dst v') w') : wpList Try.prog ops Q (o :: rest) a w := by
  obtain ⟨i, hi, hz, hs, hby⟩ := info_parts info_act
  refine wpList_append_own_at w hgd s x 22 ho b 31 i _ 3 24 Try.underlying22 hi hz hs hby rfl (by omega) v acts.length (flat acts) hv hown ⟨g, 0, none⟩ 1 c [.int .i64 k, .int .i64 m, .int .u64 (y : Int)] hx rfl ?_ ?_ (by simp only [maxLen]; omega) (by omega) hb ?_
  · intro j u hu
    rw [add0]
    match j, hu with
    | 0, hu => simp at hu; subst hu; exact h0
    | 1, hu => simp at hu; subst hu; exact h1
    | 2, hu => simp at hu; subst hu; exact h2
  · intro u hu
    simp at hu
    rcases hu with rfl | rfl | rfl <;> rfl
  · intro v' w' k1 k2 _ _
    refine h v' w' ?_ ((Fr.refl _ _).grown k2 (fun k hk => .inl (by simp [hk])))
    unfold Row3
    rw [List.length_append, show flat (acts ++ [(k, m, y)]) = flat acts ++ [.int .i64 k, .int .i64 m, .int .u64 (y : Int)] by simp [flat]]
    exact k1
end Go.Proofs.Ytgdfjoionaedgaa
