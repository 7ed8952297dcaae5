/-
  A book's chances; numbers as bits with their places; what is put and what is got; there and back. Plain: no program text.
-/
import Derived.Test.YtfjlepnodmeaaaaBitsPlain
import Derived.Test.YtfjlepnodmeaaaaCodPlain
namespace Go.Proofs.Ytfjlepnodmeaaaa

/-! A book: of each place (37 of a topic) its chance. A bit's place in its topic; none: even. -/
abbrev Chs := Nat → Nat
abbrev Ev := Option Nat × Bool
def upd (f : Chs) (k x : Nat) : Chs := fun j => if j = k then x else f j
def newBook : Chs := fun _ => 1024
def chOf (B : Chs) (t : Nat) : Option Nat → Nat
  | none => 1024
  | some i => B (37 * t + i)
def learn (B : Chs) (t : Nat) : Option Nat → Bool → Chs
  | none, _ => B
  | some i, b => upd B (37 * t + i) (nextC (B (37 * t + i)) b)
def FineB (B : Chs) : Prop := ∀ j, rightC (B j)
theorem newBook_fine : FineB newBook := fun _ => by show rightC 1024; decide
theorem chOf_right {B : Chs} (h : FineB B) (t : Nat) (i : Option Nat) : rightC (chOf B t i) := by
  cases i with
  | none => show rightC 1024; decide
  | some i => exact h _
theorem learn_fine {B : Chs} (h : FineB B) (t : Nat) (i : Option Nat) (b : Bool) : FineB (learn B t i b) := by
  cases i with
  | none => exact h
  | some i =>
    intro j
    show rightC (if j = 37 * t + i then _ else B j)
    split
    · exact nextC_right _ _
    · exact h j
/-- The chances and bits of a row of bits; the book behind them. -/
def track (t : Nat) : Chs → List Ev → List (Nat × Bool)
  | _, [] => []
  | B, (i, b) :: l => (chOf B t i, b) :: track t (learn B t i b) l
def learned (t : Nat) : Chs → List Ev → Chs
  | B, [] => B
  | B, (i, b) :: l => learned t (learn B t i b) l
theorem learned_fine (t : Nat) : ∀ (l : List Ev) {B : Chs}, FineB B → FineB (learned t B l)
  | [], _, h => h
  | (i, b) :: l, _, h => learned_fine t l (learn_fine h t i b)
theorem track_rights (t : Nat) : ∀ (l : List Ev) {B : Chs}, FineB B → Rights (track t B l)
  | [], _, _ => fun _ h => by cases h
  | (i, b) :: l, _, h => fun x hx => by
    rcases List.mem_cons.1 hx with rfl | hx
    · exact chOf_right h t i
    · exact track_rights t l (learn_fine h t i b) x hx
theorem learned_append (t : Nat) : ∀ (l m : List Ev) (B : Chs), learned t B (l ++ m) = learned t (learned t B l) m
  | [], _, _ => rfl
  | (i, b) :: l, m, B => learned_append t l m _
theorem track_append (t : Nat) : ∀ (l m : List Ev) (B : Chs), track t B (l ++ m) = track t B l ++ track t (learned t B l) m
  | [], _, _ => rfl
  | (i, b) :: l, m, B => by
    show (_ :: track t (learn B t i b) (l ++ m)) = _
    rw [track_append t l m]
    rfl
@[simp] theorem track_length (t : Nat) : ∀ (l : List Ev) (B : Chs), (track t B l).length = l.length
  | [], _ => rfl
  | (i, b) :: l, B => by simp [track, track_length t l]

/-! Numbers as bits with places. -/
def place (i a : Nat) : Option Nat := if i < 4 then some (20 + (2 ^ i - 1) + a) else none
def bitEvs : Nat → Nat → List Bool → List Ev
  | _, _, [] => []
  | i, a, b :: l => (place i a, b) :: bitEvs (i + 1) (2 * a + b.toNat) l
def onesEvs (n : Nat) : Nat → List Ev
  | 0 => []
  | k + 1 => (some n, true) :: onesEvs (n + 1) k
/-- How many bits. -/
def bitLen (v : Nat) : Nat := if v = 0 then 0 else v.log2 + 1
theorem bitLen_step {v : Nat} (h : v ≠ 0) : bitLen v = bitLen (v / 2) + 1 := by
  unfold bitLen
  rw [if_neg h, Nat.log2_def]
  by_cases h2 : 2 ≤ v
  · rw [if_pos h2, if_neg (by omega)]
  · rw [if_neg h2, if_pos (by omega)]
def stopEvs (n : Nat) : List Ev := if n < 20 then [(some n, false)] else []
def numEvs (v : Nat) : List Ev := onesEvs 0 (v + 1).log2 ++ (stopEvs (v + 1).log2 ++ bitEvs 0 0 (digits (v + 1) (v + 1).log2))
def signEvs (x : Int) : List Ev := if x = 0 then [] else [(some 36, decide (x < 0))]
def sgnEvs (x : Int) : List Ev := numEvs x.natAbs ++ signEvs x
def oneEvs (n v : Nat) : List Ev := bitEvs 0 0 (digits v (bitLen (n - 1)))
theorem log2_level {v : Nat} (h : v ≤ 1048576) : (v + 1).log2 ≤ 20 := by
  have : (v + 1).log2 < 21 := (Nat.log2_lt (by omega)).2 (by omega)
  omega
@[simp] theorem bitEvs_length : ∀ (l : List Bool) (i a : Nat), (bitEvs i a l).length = l.length
  | [], _, _ => rfl
  | b :: l, i, a => by simp [bitEvs, bitEvs_length l]
@[simp] theorem onesEvs_length : ∀ (k n : Nat), (onesEvs n k).length = k
  | 0, _ => rfl
  | k + 1, n => by simp [onesEvs, onesEvs_length k]
theorem numEvs_length {v : Nat} (h : v ≤ 1048576) : (numEvs v).length ≤ 41 := by
  have := log2_level h
  unfold numEvs stopEvs
  simp
  split <;> simp <;> omega

/-- An act: its topic is right and its number may be. -/
def actEvs (k t n v : Int) : Option (List Ev) :=
  if t < 0 ∨ 15 < t then none
  else if k = 1 then if 0 ≤ v ∧ v ≤ 1048576 then some (numEvs v.toNat) else none
  else if k = 2 then if -1048576 ≤ v ∧ v ≤ 1048576 then some (sgnEvs v) else none
  else if 1 ≤ n ∧ n ≤ 16 ∧ 0 ≤ v ∧ v < n then some (oneEvs n.toNat v.toNat) else none

/-! Getting. -/
def getEv (bs : List UInt8) (t : Nat) (B : Chs) (d : Dec) (i : Option Nat) : Option (Bool × Chs × Dec) :=
  match decGet bs d (chOf B t i) with
  | none => none
  | some (b, d') => some (b, learn B t i b, d')
def getLen (bs : List UInt8) (t : Nat) : Nat → Nat → Chs → Dec → Option (Nat × Chs × Dec)
  | 0, n, B, d => some (n, B, d)
  | k + 1, n, B, d =>
    match getEv bs t B d (some n) with
    | none => none
    | some (b, B', d') => if b then getLen bs t k (n + 1) B' d' else some (n, B', d')
def getBits (bs : List UInt8) (t : Nat) : Nat → Nat → Nat → Chs → Dec → Option (Nat × Chs × Dec)
  | 0, _, a, B, d => some (a, B, d)
  | k + 1, i, a, B, d =>
    match getEv bs t B d (place i a) with
    | none => none
    | some (b, B', d') => getBits bs t k (i + 1) (2 * a + b.toNat) B' d'
/-- A number, or the error: 41 of the decoder's, 51 of too great a one. -/
inductive Got where
  | bad (e : Int)
  | ok (v : Int) (B : Chs) (d : Dec)
def getNum (bs : List UInt8) (t : Nat) (B : Chs) (d : Dec) : Got :=
  match getLen bs t 20 0 B d with
  | none => .bad 41
  | some (n, B1, d1) =>
    match getBits bs t n 0 0 B1 d1 with
    | none => .bad 41
    | some (a, B2, d2) => if 1048576 < 2 ^ n + a - 1 then .bad 51 else .ok ((2 ^ n + a - 1 : Nat) : Int) B2 d2
def getSign (bs : List UInt8) (t : Nat) (v : Int) (B : Chs) (d : Dec) : Got :=
  if v = 0 then .ok 0 B d else
  match getEv bs t B d (some 36) with
  | none => .bad 41
  | some (b, B', d') => .ok (if b then -v else v) B' d'
def getSgn (bs : List UInt8) (t : Nat) (B : Chs) (d : Dec) : Got :=
  match getNum bs t B d with
  | .bad e => .bad e
  | .ok v B' d' => getSign bs t v B' d'
def getOne (bs : List UInt8) (t n : Nat) (B : Chs) (d : Dec) : Got :=
  match getBits bs t (bitLen (n - 1)) 0 0 B d with
  | none => .bad 41
  | some (a, B', d') => if n ≤ a then .bad 51 else .ok (a : Int) B' d'
def getAct (bs : List UInt8) (k t n : Int) (B : Chs) (d : Dec) : Got :=
  if t < 0 ∨ 15 < t then .bad 1
  else if k = 1 then getNum bs t.toNat B d
  else if k = 2 then getSgn bs t.toNat B d
  else if n < 1 ∨ 16 < n then .bad 1 else getOne bs t.toNat n.toNat B d

/-! There and back. -/
/-- In the bytes bs, from d on, lies what L puts. -/
def Ahd (tl bs : List UInt8) (d : Dec) (L : List (Nat × Bool)) : Prop :=
  ∃ e, e.Ok ∧ At bs d e ∧ Rights L ∧ bs = bytesOf (puts e L).n (puts e L).v ++ tl
theorem Ahd.step {tl bs : List UInt8} {d : Dec} {c : Nat} {b : Bool} {L : List (Nat × Bool)} (h : Ahd tl bs d ((c, b) :: L)) : ∃ d', decGet bs d c = some (b, d') ∧ Ahd tl bs d' L := by
  obtain ⟨e, he, ha, hr, hb⟩ := h
  have ha' := ha
  rw [hb] at ha'
  obtain ⟨d', hd⟩ := got_put he hr ha'
  rw [← hb] at hd
  refine ⟨d', hd, encPut e c b, encPut_ok he (hr (c, b) (List.mem_cons_self ..)) b, at_got ha hd, fun x hx => hr x (List.mem_cons_of_mem _ hx), hb⟩
theorem Ahd.ev {tl bs : List UInt8} {d : Dec} {t : Nat} {B : Chs} {i : Option Nat} {b : Bool} {l : List Ev} {L : List (Nat × Bool)} (h : Ahd tl bs d (track t B ((i, b) :: l) ++ L)) :
    ∃ d', getEv bs t B d i = some (b, learn B t i b, d') ∧ Ahd tl bs d' (track t (learn B t i b) l ++ L) := by
  obtain ⟨d', hd, ha⟩ := h.step
  refine ⟨d', ?_, ha⟩
  unfold getEv
  rw [hd]
theorem Ahd.bits {tl bs : List UInt8} {t : Nat} {L : List (Nat × Bool)} : ∀ (l : List Bool) (i a : Nat) (B : Chs) (d : Dec) (m : List Ev), Ahd tl bs d (track t B (bitEvs i a l ++ m) ++ L) →
    ∃ d', getBits bs t l.length i a B d = some (l.foldl (fun a b => 2 * a + b.toNat) a, learned t B (bitEvs i a l), d') ∧ Ahd tl bs d' (track t (learned t B (bitEvs i a l)) m ++ L)
  | [], i, a, B, d, m, h => ⟨d, rfl, h⟩
  | b :: l, i, a, B, d, m, h => by
    obtain ⟨d1, h1, h2⟩ := Ahd.ev (l := bitEvs (i + 1) (2 * a + b.toNat) l ++ m) h
    obtain ⟨d2, h3, h4⟩ := Ahd.bits l _ _ _ _ _ h2
    refine ⟨d2, ?_, h4⟩
    show (match getEv bs t B d (place i a) with | none => none | some (b, B', d') => getBits bs t l.length (i + 1) (2 * a + b.toNat) B' d') = _
    rw [h1]
    exact h3
theorem Ahd.len {tl bs : List UInt8} {t : Nat} {L : List (Nat × Bool)} : ∀ (k j n : Nat) (B : Chs) (d : Dec) (m : List Ev), n + k + j = 20 → Ahd tl bs d (track t B (onesEvs n k ++ (stopEvs (n + k) ++ m)) ++ L) →
    ∃ d', getLen bs t (k + j) n B d = some (n + k, learned t B (onesEvs n k ++ stopEvs (n + k)), d') ∧ Ahd tl bs d' (track t (learned t B (onesEvs n k ++ stopEvs (n + k))) m ++ L)
  | 0, 0, n, B, d, m, hn, h => by
    have e : stopEvs (n + 0) = [] := by unfold stopEvs; rw [if_neg (by omega)]
    rw [e] at h ⊢
    exact ⟨d, rfl, h⟩
  | 0, j + 1, n, B, d, m, hn, h => by
    have e : stopEvs (n + 0) = [(some n, false)] := by unfold stopEvs; rw [if_pos (by omega)]; rfl
    rw [e] at h ⊢
    obtain ⟨d1, h1, h2⟩ := Ahd.ev (l := m) h
    refine ⟨d1, ?_, h2⟩
    rw [show 0 + (j + 1) = j + 1 by omega]
    show (match getEv bs t B d (some n) with | none => none | some (b, B', d') => if b then getLen bs t j (n + 1) B' d' else some (n, B', d')) = _
    rw [h1]
    rfl
  | k + 1, j, n, B, d, m, hn, h => by
    obtain ⟨d1, h1, h2⟩ := Ahd.ev (l := onesEvs (n + 1) k ++ (stopEvs (n + (k + 1)) ++ m)) h
    rw [show n + (k + 1) = n + 1 + k by omega] at h2 ⊢
    obtain ⟨d2, h3, h4⟩ := Ahd.len k j (n + 1) _ _ _ (by omega) h2
    refine ⟨d2, ?_, h4⟩
    rw [show k + 1 + j = (k + j) + 1 by omega]
    show (match getEv bs t B d (some n) with | none => none | some (b, B', d') => if b then getLen bs t (k + j) (n + 1) B' d' else some (n, B', d')) = _
    rw [h1]
    exact h3
theorem Ahd.num {tl bs : List UInt8} {t : Nat} {L : List (Nat × Bool)} {v : Nat} (hv : v ≤ 1048576) (B : Chs) (d : Dec) (m : List Ev) (h : Ahd tl bs d (track t B (numEvs v ++ m) ++ L)) :
    ∃ d', getNum bs t B d = .ok (v : Int) (learned t B (numEvs v)) d' ∧ Ahd tl bs d' (track t (learned t B (numEvs v)) m ++ L) := by
  have hl := log2_level hv
  unfold numEvs at h
  rw [List.append_assoc, List.append_assoc] at h
  obtain ⟨d1, h1, h2⟩ := Ahd.len (v + 1).log2 (20 - (v + 1).log2) 0 B d (bitEvs 0 0 (digits (v + 1) (v + 1).log2) ++ m) (by omega) (by simpa using h)
  rw [show (v + 1).log2 + (20 - (v + 1).log2) = 20 by omega, Nat.zero_add] at h1
  rw [Nat.zero_add] at h2
  obtain ⟨d2, h3, h4⟩ := Ahd.bits _ _ _ _ _ _ h2
  have e1 : learned t (learned t B (onesEvs 0 (v + 1).log2 ++ stopEvs (v + 1).log2)) (bitEvs 0 0 (digits (v + 1) (v + 1).log2)) = learned t B (numEvs v) := by
    rw [← learned_append, List.append_assoc]
    rfl
  rw [e1] at h3 h4
  have e2 : (digits (v + 1) (v + 1).log2).foldl (fun a b => 2 * a + b.toNat) 0 = (v + 1) % 2 ^ (v + 1).log2 := number_digits _ _
  rw [e2, digits_length] at h3
  refine ⟨d2, ?_, h4⟩
  have b1 : 2 ^ (v + 1).log2 ≤ v + 1 := Nat.log2_self_le (by omega)
  have b2 : v + 1 < 2 ^ ((v + 1).log2 + 1) := Nat.lt_log2_self
  have e3 : (v + 1) % 2 ^ (v + 1).log2 = v + 1 - 2 ^ (v + 1).log2 := by
    rw [Nat.pow_succ] at b2
    rw [Nat.mod_eq_sub_mod b1, Nat.mod_eq_of_lt (by omega)]
  rw [e3] at h3
  unfold getNum
  rw [h1]
  simp only [h3]
  rw [if_neg (by omega)]
  congr 1
  omega
theorem Ahd.sgn {tl bs : List UInt8} {t : Nat} {L : List (Nat × Bool)} {x : Int} (h1 : -1048576 ≤ x) (h2 : x ≤ 1048576) (B : Chs) (d : Dec) (m : List Ev) (h : Ahd tl bs d (track t B (sgnEvs x ++ m) ++ L)) :
    ∃ d', getSgn bs t B d = .ok x (learned t B (sgnEvs x)) d' ∧ Ahd tl bs d' (track t (learned t B (sgnEvs x)) m ++ L) := by
  unfold sgnEvs at h
  rw [List.append_assoc] at h
  obtain ⟨d1, g1, g2⟩ := Ahd.num (v := x.natAbs) (by omega) B d _ h
  unfold getSgn
  rw [g1]
  simp only
  unfold getSign
  by_cases hx : x = 0
  · have e : signEvs x = [] := by unfold signEvs; rw [if_pos hx]
    rw [if_pos (by omega)]
    rw [e] at g2
    refine ⟨d1, ?_, ?_⟩
    · unfold sgnEvs
      rw [e, List.append_nil, hx]
    · unfold sgnEvs
      rw [e, List.append_nil]
      exact g2
  · have e : signEvs x = [(some 36, decide (x < 0))] := by unfold signEvs; rw [if_neg hx]
    rw [if_neg (by omega)]
    rw [e] at g2
    obtain ⟨d2, k1, k2⟩ := Ahd.ev (l := m) g2
    have e2 : learned t B (sgnEvs x) = learn (learned t B (numEvs x.natAbs)) t (some 36) (decide (x < 0)) := by
      unfold sgnEvs
      rw [e, learned_append]
      rfl
    rw [k1, e2]
    refine ⟨d2, ?_, k2⟩
    simp only
    congr 1
    by_cases hn : x < 0
    · rw [if_pos (by simpa using hn)]; omega
    · rw [if_neg (by simpa using hn)]; omega
theorem bitLen_lt (n : Nat) : n < 2 ^ bitLen n := by
  unfold bitLen
  split
  · subst n; decide
  · exact Nat.lt_log2_self
theorem Ahd.one {tl bs : List UInt8} {t : Nat} {L : List (Nat × Bool)} {n v : Nat} (hv : v < n) (B : Chs) (d : Dec) (m : List Ev) (h : Ahd tl bs d (track t B (oneEvs n v ++ m) ++ L)) :
    ∃ d', getOne bs t n B d = .ok (v : Int) (learned t B (oneEvs n v)) d' ∧ Ahd tl bs d' (track t (learned t B (oneEvs n v)) m ++ L) := by
  obtain ⟨d1, g1, g2⟩ := Ahd.bits (digits v (bitLen (n - 1))) 0 0 B d m h
  have e2 : (digits v (bitLen (n - 1))).foldl (fun a b => 2 * a + b.toNat) 0 = v := by
    have h1 := number_digits v (bitLen (n - 1))
    have h2 := bitLen_lt (n - 1)
    rw [Nat.mod_eq_of_lt (by omega)] at h1
    exact h1
  rw [e2, digits_length] at g1
  refine ⟨d1, ?_, g2⟩
  unfold getOne
  rw [g1]
  simp only
  rw [if_neg (by omega)]
  rfl
theorem Ahd.act {tl bs : List UInt8} {k t n v : Int} {l : List Ev} {L : List (Nat × Bool)} (ha : actEvs k t n v = some l) (B : Chs) (d : Dec) (h : Ahd tl bs d (track t.toNat B l ++ L)) :
    ∃ d', getAct bs k t n B d = .ok v (learned t.toNat B l) d' ∧ Ahd tl bs d' L := by
  have h0 : Ahd tl bs d (track t.toNat B (l ++ []) ++ L) := by rw [List.append_nil]; exact h
  unfold actEvs at ha
  unfold getAct
  split at ha
  · cases ha
  · rename_i ht
    rw [if_neg ht]
    split at ha
    · rename_i hk
      rw [if_pos hk]
      split at ha
      · rename_i hv
        injection ha with ha
        subst ha
        obtain ⟨d', g1, g2⟩ := Ahd.num (by omega) B d [] h0
        rw [g1]
        exact ⟨d', by congr 1; omega, g2⟩
      · cases ha
    · rename_i hk
      rw [if_neg hk]
      split at ha
      · rename_i hk2
        rw [if_pos hk2]
        split at ha
        · rename_i hv
          injection ha with ha
          subst ha
          exact Ahd.sgn hv.1 hv.2 B d [] h0
        · cases ha
      · rename_i hk2
        rw [if_neg hk2]
        split at ha
        · rename_i hv
          injection ha with ha
          subst ha
          rw [if_neg (by omega)]
          obtain ⟨d', g1, g2⟩ := Ahd.one (n := n.toNat) (v := v.toNat) (by omega) B d [] h0
          rw [g1]
          exact ⟨d', by congr 1; omega, g2⟩
        · cases ha

/-- What was put by an encoder lies ahead; behind it all, that was all. -/
theorem ahd_open {L : List (Nat × Bool)} (hr : Rights L) (tl : List UInt8) : Ahd tl (bytesOf (puts encNew L).n (puts encNew L).v ++ tl) (decOpen (bytesOf (puts encNew L).n (puts encNew L).v ++ tl)) L := by
  have h4 : 4 ≤ (puts encNew L).n := (puts_within encNew_ok hr).1
  exact ⟨encNew, encNew_ok, at_open _ (by simp; omega), hr, rfl⟩
theorem Ahd.done {bs : List UInt8} {d : Dec} (h : Ahd [] bs d []) : d.i = bs.length ∧ d.rest = 0 := by
  obtain ⟨e, he, ha, -, hb⟩ := h
  rw [List.append_nil] at hb
  change bs = bytesOf e.n e.v at hb
  have h1 := ha.val
  have h2 : bs.length = e.n := by rw [hb]; simp
  rw [← h2, List.take_length, hb, valueOf_bytesOf, Nat.mod_eq_of_lt (by have := he.fit; have := he.lo; omega)] at h1
  exact ⟨by rw [ha.i, h2], by omega⟩
theorem Ahd.range {tl bs : List UInt8} {d : Dec} {L : List (Nat × Bool)} (h : Ahd tl bs d L) : 16777216 ≤ d.r ∧ d.r ≤ 4294967295 ∧ d.i ≤ bs.length := by
  obtain ⟨e, he, ha, -, -⟩ := h
  rw [ha.r, ha.i]
  exact ⟨he.lo, he.hi, ha.len⟩
end Go.Proofs.Ytfjlepnodmeaaaa
