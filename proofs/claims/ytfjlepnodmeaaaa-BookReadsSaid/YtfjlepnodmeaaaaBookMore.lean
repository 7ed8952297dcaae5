/-
  A book's topics are apart; what comes again is shorter. Plain: no program text.
-/
import Derived.Test.YtfjlepnodmeaaaaBookPlain
namespace Go.Proofs.Ytfjlepnodmeaaaa

/-! The places of what is put lie in their topic. -/
def InTopic (l : List Ev) : Prop := ∀ x ∈ l, ∀ i, x.1 = some i → i < 37
theorem InTopic.append {l m : List Ev} (h : InTopic l) (k : InTopic m) : InTopic (l ++ m) := fun x hx => by
  rcases List.mem_append.1 hx with hx | hx
  · exact h x hx
  · exact k x hx
theorem place_lt {i a : Nat} (ha : a < 2 ^ i) : ∀ j, place i a = some j → j < 37 := by
  intro j hj
  unfold place at hj
  split at hj
  · rename_i h
    injection hj with hj
    have : i = 0 ∨ i = 1 ∨ i = 2 ∨ i = 3 := by omega
    rcases this with rfl | rfl | rfl | rfl <;> simp at ha hj <;> omega
  · cases hj
theorem bitEvs_in : ∀ (l : List Bool) (i a : Nat), a < 2 ^ i → InTopic (bitEvs i a l)
  | [], _, _, _ => fun _ h => by cases h
  | b :: l, i, a, ha => fun x hx => by
    rcases List.mem_cons.1 hx with rfl | hx
    · exact place_lt ha
    · refine bitEvs_in l (i + 1) (2 * a + b.toNat) ?_ x hx
      rw [Nat.pow_succ]
      have := Bool.toNat_le b
      omega
theorem onesEvs_in : ∀ (k n : Nat), n + k ≤ 20 → InTopic (onesEvs n k)
  | 0, _, _ => fun _ h => by cases h
  | k + 1, n, hn => fun x hx => by
    rcases List.mem_cons.1 hx with rfl | hx
    · intro i hi
      injection hi with hi
      omega
    · exact onesEvs_in k (n + 1) (by omega) x hx
theorem stopEvs_in (n : Nat) : InTopic (stopEvs n) := by
  unfold stopEvs
  split
  · intro x hx i hi
    simp at hx
    subst hx
    injection hi with hi
    omega
  · exact fun _ h => by cases h
theorem numEvs_in {v : Nat} (h : v ≤ 1048576) : InTopic (numEvs v) :=
  (onesEvs_in _ _ (by have := log2_level h; omega)).append ((stopEvs_in _).append (bitEvs_in _ _ _ (by decide)))
theorem signEvs_in (x : Int) : InTopic (signEvs x) := by
  unfold signEvs
  split
  · exact fun _ h => by cases h
  · intro y hy i hi
    simp at hy
    subst hy
    injection hi with hi
    omega
theorem actEvs_in {k t n v : Int} {l : List Ev} (h : actEvs k t n v = some l) : InTopic l := by
  unfold actEvs at h
  split at h
  · cases h
  · split at h
    · split at h
      · injection h with h; subst h; exact numEvs_in (by omega)
      · cases h
    · split at h
      · split at h
        · injection h with h; subst h; exact (numEvs_in (by omega)).append (signEvs_in _)
        · cases h
      · split at h
        · injection h with h; subst h; exact bitEvs_in _ _ _ (by decide)
        · cases h
theorem bitLen_le {n : Nat} (h : n ≤ 16) : bitLen (n - 1) ≤ 4 := by
  unfold bitLen
  split
  · omega
  · have : (n - 1).log2 < 4 := (Nat.log2_lt (by omega)).2 (by omega)
    omega
theorem actEvs_length {k t n v : Int} {l : List Ev} (h : actEvs k t n v = some l) : l.length ≤ 42 := by
  unfold actEvs at h
  split at h
  · cases h
  · split at h
    · split at h
      · injection h with h; subst h; exact Nat.le_trans (numEvs_length (by omega)) (by omega)
      · cases h
    · split at h
      · split at h
        · injection h with h; subst h
          have h1 := numEvs_length (v := v.natAbs) (by omega)
          unfold sgnEvs signEvs
          rw [List.length_append]
          split <;> simp <;> omega
        · cases h
      · split at h
        · injection h with h; subst h
          unfold oneEvs
          have := bitLen_le (n := n.toNat) (by omega)
          simp
          omega
        · cases h

/-! What is put hangs on its own topic's chances, and turns no others. -/
def SameAt (t : Nat) (B C : Chs) : Prop := ∀ i, i < 37 → B (37 * t + i) = C (37 * t + i)
theorem learn_other {B : Chs} {t s : Nat} {i : Option Nat} {b : Bool} (hi : ∀ j, i = some j → j < 37) (h : s ≠ t) : SameAt s (learn B t i b) B := by
  intro k hk
  cases i with
  | none => rfl
  | some i =>
    have := hi i rfl
    show (if 37 * s + k = 37 * t + i then _ else _) = _
    rw [if_neg (by omega)]
theorem learned_other {t s : Nat} (h : s ≠ t) : ∀ (l : List Ev) (B : Chs), InTopic l → SameAt s (learned t B l) B
  | [], _, _ => fun _ _ => rfl
  | (i, b) :: l, B, hl => fun k hk => by
    have h1 := learned_other h l (learn B t i b) (fun x hx => hl x (List.mem_cons_of_mem _ hx)) k hk
    have h2 := learn_other (B := B) (t := t) (b := b) (hl (i, b) (List.mem_cons_self ..)) h k hk
    exact h1.trans h2
theorem learn_same {B C : Chs} {t : Nat} {i : Option Nat} {b : Bool} (hi : ∀ j, i = some j → j < 37) (h : SameAt t B C) : SameAt t (learn B t i b) (learn C t i b) := by
  intro k hk
  cases i with
  | none => exact h k hk
  | some i =>
    have hi := h i (hi i rfl)
    show (if 37 * t + k = 37 * t + i then _ else _) = (if 37 * t + k = 37 * t + i then _ else _)
    rw [hi, h k hk]
theorem chOf_same {B C : Chs} {t : Nat} {i : Option Nat} (hi : ∀ j, i = some j → j < 37) (h : SameAt t B C) : chOf B t i = chOf C t i := by
  cases i with
  | none => rfl
  | some i => exact h i (hi i rfl)
theorem track_same {t : Nat} : ∀ (l : List Ev) (B C : Chs), InTopic l → SameAt t B C → track t B l = track t C l
  | [], _, _, _, _ => rfl
  | (i, b) :: l, B, C, hl, h => by
    have hi := hl (i, b) (List.mem_cons_self ..)
    show (chOf B t i, b) :: _ = (chOf C t i, b) :: _
    rw [chOf_same hi h, track_same l _ _ (fun x hx => hl x (List.mem_cons_of_mem _ hx)) (learn_same hi h)]

/-! What comes again. -/
theorem learn_at (B : Chs) (t i j : Nat) (b : Bool) : learn B t (some i) b (37 * t + j) = if j = i then nextC (B (37 * t + i)) b else B (37 * t + j) := by
  show (if 37 * t + j = 37 * t + i then _ else _) = _
  by_cases h : j = i
  · rw [if_pos (by omega), if_pos h]
  · rw [if_neg (by omega), if_neg h]
/-- Bits at places that all differ: each goes by its own chance. -/
theorem track_apart (t : Nat) : ∀ (ps : List (Nat × Bool)) (B : Chs), (ps.map Prod.fst).Nodup → track t B (ps.map fun x => (some x.1, x.2)) = ps.map fun x => (B (37 * t + x.1), x.2)
  | [], _, _ => rfl
  | (i, b) :: ps, B, h => by
    obtain ⟨h1, h2⟩ := List.nodup_cons.1 h
    show (B (37 * t + i), b) :: track t (learn B t (some i) b) (ps.map fun x => (some x.1, x.2)) = (B (37 * t + i), b) :: _
    rw [track_apart t ps _ h2]
    congr 1
    apply List.map_congr_left
    intro x hx
    rw [learn_at, if_neg (fun e => h1 (by rw [← e]; exact List.mem_map.2 ⟨x, hx, rfl⟩))]
theorem learned_apart (t : Nat) : ∀ (ps : List (Nat × Bool)) (B : Chs), (ps.map Prod.fst).Nodup → ∀ j, learned t B (ps.map fun x => (some x.1, x.2)) (37 * t + j) = match ps.find? (fun x => x.1 == j) with | some x => nextC (B (37 * t + j)) x.2 | none => B (37 * t + j)
  | [], _, _, _ => rfl
  | (i, b) :: ps, B, h, j => by
    obtain ⟨h1, h2⟩ := List.nodup_cons.1 h
    show learned t (learn B t (some i) b) (ps.map fun x => (some x.1, x.2)) (37 * t + j) = _
    rw [learned_apart t ps _ h2 j, learn_at]
    by_cases hj : j = i
    · subst hj
      have hn : ps.find? (fun x => x.1 == j) = none := by
        rw [List.find?_eq_none]
        intro x hx hxe
        have hxe : x.1 = j := by simpa using hxe
        exact h1 (by rw [← hxe]; exact List.mem_map.2 ⟨x, hx, rfl⟩)
      rw [hn, List.find?_cons_of_pos (by simp)]
      simp
    · rw [if_neg hj, List.find?_cons_of_neg (by simp; omega)]
/-- One time: the chances of its bits. -/
def again (cs : List (Nat × Bool)) : List (Nat × Bool) := cs.map fun x => (nextC x.1 x.2, x.2)
theorem track_again (t : Nat) (ps : List (Nat × Bool)) (B : Chs) (h : (ps.map Prod.fst).Nodup) :
    track t (learned t B (ps.map fun x => (some x.1, x.2))) (ps.map fun x => (some x.1, x.2)) = again (track t B (ps.map fun x => (some x.1, x.2))) := by
  rw [track_apart t ps _ h, track_apart t ps _ h, again, List.map_map]
  apply List.map_congr_left
  intro x hx
  rw [learned_apart t ps B h]
  have : ps.find? (fun y => y.1 == x.1) = some x := by
    obtain ⟨y, hy⟩ : ∃ y, ps.find? (fun y => y.1 == x.1) = some y := by
      cases hf : ps.find? (fun y => y.1 == x.1) with
      | some y => exact ⟨y, rfl⟩
      | none => exact absurd (List.find?_eq_none.1 hf x hx) (by simp)
    have h1 := List.mem_of_find?_eq_some hy
    have h2 : y.1 = x.1 := by simpa using List.find?_some hy
    rw [hy]
    congr 1
    have := List.pairwise_map.1 (List.nodup_iff_pairwise_ne.1 h)
    rcases Classical.em (y = x) with hne | hne
    · exact hne
    exfalso
    rcases List.mem_iff_getElem.1 h1 with ⟨a, ha, rfl⟩
    rcases List.mem_iff_getElem.1 hx with ⟨b, hb, rfl⟩
    have hab : a ≠ b := fun e => hne (by subst e; rfl)
    rw [List.pairwise_iff_getElem] at this
    rcases Nat.lt_or_gt_of_ne hab with hl | hl
    · exact this a b ha hb hl h2
    · exact this b a hb ha hl h2.symm
  rw [this]
  rfl

/-- How long, how wide: without the number. -/
def runBits : List (Nat × Bool) → Nat × Nat → Nat × Nat
  | [], s => s
  | (c, b) :: l, (r, n) =>
    let w := if b then r - bnd r c else bnd r c
    if w < 16777216 then runBits l (w * 256, n + 1) else runBits l (w, n)
theorem runBits_puts : ∀ (l : List (Nat × Bool)) (e : Enc), runBits l (e.r, e.n) = ((puts e l).r, (puts e l).n)
  | [], e => rfl
  | (c, b) :: l, e => by
    have h := runBits_puts l (encPut e c b)
    show _ = ((puts (encPut e c b) l).r, (puts (encPut e c b) l).n)
    rw [← h]
    rw [show runBits ((c, b) :: l) (e.r, e.n) = (let w := if b then e.r - bnd e.r c else bnd e.r c; if w < 16777216 then runBits l (w * 256, e.n + 1) else runBits l (w, e.n)) from rfl]
    unfold encPut encScale encBit
    cases b <;> simp only [if_true, if_false, Bool.false_eq_true] <;> split <;> rfl
def runAgain : Nat → List (Nat × Bool) → Nat × Nat → List (Nat × Bool) × Nat × Nat
  | 0, cs, s => (cs, s)
  | k + 1, cs, s => runAgain k (again cs) (runBits cs s)
def evens (ps : List (Nat × Bool)) : List (Nat × Bool) := ps.map fun x => (1024, x.2)
def learnsOk (ps : List (Nat × Bool)) : Bool :=
  let a := runAgain 100 (evens ps) (4294967295, 4)
  let b := runAgain 100 a.1 a.2
  decide (b.2.2 - a.2.2 ≤ a.2.2 / 2 + 2)
/-- The places of a small number's bits. -/
def smallEvs (v : Nat) : List (Nat × Bool) := (numEvs v).filterMap fun x => x.1.map fun i => (i, x.2)
theorem small_evs : ∀ v, v < 15 → (smallEvs v).map (fun x => (some x.1, x.2)) = numEvs v ∧ ((smallEvs v).map Prod.fst).Nodup := by decide +kernel
theorem small_learns : ∀ v, v < 15 → learnsOk (smallEvs v) = true := by decide +kernel

theorem runAgain_succ : ∀ (k : Nat) (cs : List (Nat × Bool)) (s : Nat × Nat), runAgain (k + 1) cs s = (again (runAgain k cs s).1, runBits (runAgain k cs s).1 (runAgain k cs s).2)
  | 0, _, _ => rfl
  | k + 1, cs, s => runAgain_succ k (again cs) (runBits cs s)
theorem runAgain_add : ∀ (j k : Nat) (cs : List (Nat × Bool)) (s : Nat × Nat), runAgain (k + j) cs s = runAgain j (runAgain k cs s).1 (runAgain k cs s).2
  | 0, _, _, _ => rfl
  | j + 1, k, cs, s => by
    rw [show k + (j + 1) = (k + j) + 1 by omega, runAgain_succ, runAgain_add j k, runAgain_succ j]
/-- A number put again and again by a new book. -/
def timesN (t : Nat) (l : List Ev) : Nat → Chs × Enc
  | 0 => (newBook, encNew)
  | k + 1 => (learned t (timesN t l k).1 l, puts (timesN t l k).2 (track t (timesN t l k).1 l))
theorem timesN_fine (t : Nat) (l : List Ev) : ∀ k, FineB (timesN t l k).1 ∧ (timesN t l k).2.Ok
  | 0 => ⟨newBook_fine, encNew_ok⟩
  | k + 1 => ⟨learned_fine t l (timesN_fine t l k).1, puts_ok (timesN_fine t l k).2 (track_rights t l (timesN_fine t l k).1)⟩
theorem timesN_n (t : Nat) (l : List Ev) : ∀ k, (timesN t l k).2.n ≤ 4 + k * l.length
  | 0 => by show 4 ≤ _; omega
  | k + 1 => by
    have h1 := timesN_n t l k
    have h2 := puts_n (track t (timesN t l k).1 l) (timesN t l k).2
    rw [track_length] at h2
    show (puts (timesN t l k).2 (track t (timesN t l k).1 l)).n ≤ _
    rw [Nat.add_mul]
    omega
theorem puts_le (l : List (Nat × Bool)) (e : Enc) : e.n ≤ (puts e l).n := by
  induction l generalizing e with
  | nil => exact Nat.le_refl _
  | cons a l ih => exact Nat.le_trans (encPut_n e a.1 a.2).1 (ih _)
theorem runAgain_times (t : Nat) (ps : List (Nat × Bool)) (h : (ps.map Prod.fst).Nodup) : ∀ k,
    runAgain k (evens ps) (4294967295, 4) = (track t (timesN t (ps.map fun x => (some x.1, x.2)) k).1 (ps.map fun x => (some x.1, x.2)), (timesN t (ps.map fun x => (some x.1, x.2)) k).2.r, (timesN t (ps.map fun x => (some x.1, x.2)) k).2.n)
  | 0 => by
    show (evens ps, 4294967295, 4) = (track t newBook _, _, _)
    rw [track_apart t ps newBook h]
    rfl
  | k + 1 => by
    rw [runAgain_succ, runAgain_times t ps h k]
    simp only
    rw [runBits_puts, ← track_again t ps _ h]
    rfl
theorem learns {v : Nat} (hv : v < 15) (t : Nat) : (timesN t (numEvs v) 200).2.n - (timesN t (numEvs v) 100).2.n ≤ (timesN t (numEvs v) 100).2.n / 2 + 2 := by
  obtain ⟨h1, h2⟩ := small_evs v hv
  have h3 := small_learns v hv
  have h100 := runAgain_times t (smallEvs v) h2 100
  have h200 := runAgain_times t (smallEvs v) h2 200
  rw [show (200 : Nat) = 100 + 100 from rfl, runAgain_add] at h200
  rw [h1] at h100 h200
  unfold learnsOk at h3
  simp only [decide_eq_true_eq] at h3
  rw [h200, h100] at h3
  exact h3
end Go.Proofs.Ytfjlepnodmeaaaa
