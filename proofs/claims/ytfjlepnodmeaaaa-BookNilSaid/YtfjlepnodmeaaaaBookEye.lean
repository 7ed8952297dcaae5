/-
  A book and a decoder in memory that is new since the law's beginning; what getting an act makes of them, out of the book's contracts; the document's likewise.
-/
import Derived.Test.YtfjlepnodmeaaaaBookLive
import Derived.Test.YtfjlepnodmeaaaaRef5g
import Derived.Test.YtfjlepnodmeaaaaRef5h
namespace Go.Proofs.Ytfjlepnodmeaaaa
open Go.RowKit

/-! What getting keeps. -/
structure Okd (bs : List UInt8) (B : Chs) (d : Dec) : Prop where
  fine : FineB B
  lo : 16777216 ≤ d.r
  hi : d.r ≤ 4294967295
  at_ : d.i ≤ bs.length
  rest : d.rest < 4294967296
section
variable {bs : List UInt8} {t : Nat} {B B' : Chs} {d d' : Dec}
theorem getEv_keeps {i : Option Nat} {b : Bool} (h : getEv bs t B d i = some (b, B', d')) (k : Okd bs B d) : Okd bs B' d' := by
  unfold getEv at h
  split at h
  · cases h
  · rename_i b1 d1 hg
    injection h with h
    injection h with h1 h
    injection h with h2 h3
    subst h1 h2 h3
    obtain ⟨k1, k2, k3⟩ := got_keeps hg (chOf_right k.fine t i) k.lo k.hi k.at_
    have k4 := got_rest hg
    exact ⟨learn_fine k.fine t i b1, k1, k2, k3, by omega⟩
theorem getLen_keeps : ∀ (k n : Nat) {n' : Nat} {B : Chs} {d : Dec}, getLen bs t k n B d = some (n', B', d') → Okd bs B d → Okd bs B' d'
  | 0, n, n', B, d, h, hk => by
    unfold getLen at h
    injection h with h
    injection h with h1 h
    injection h with h2 h3
    subst h2 h3
    exact hk
  | k + 1, n, n', B, d, h, hk => by
    unfold getLen at h
    split at h
    · cases h
    · rename_i b1 B1 d1 hg
      have hk1 := getEv_keeps hg hk
      split at h
      · exact getLen_keeps k (n + 1) h hk1
      · injection h with h
        injection h with h1 h
        injection h with h2 h3
        subst h2 h3
        exact hk1
theorem getBits_keeps : ∀ (k i a : Nat) {a' : Nat} {B : Chs} {d : Dec}, getBits bs t k i a B d = some (a', B', d') → Okd bs B d → Okd bs B' d'
  | 0, i, a, a', B, d, h, hk => by
    unfold getBits at h
    injection h with h
    injection h with h1 h
    injection h with h2 h3
    subst h2 h3
    exact hk
  | k + 1, i, a, a', B, d, h, hk => by
    unfold getBits at h
    split at h
    · cases h
    · rename_i b1 B1 d1 hg
      exact getBits_keeps k (i + 1) _ h (getEv_keeps hg hk)
def Got.Fine (bs : List UInt8) : Got → Prop
  | .bad e => e = 41 ∨ e = 51
  | .ok _ B d => Okd bs B d
theorem getNum_keeps (k : Okd bs B d) : (getNum bs t B d).Fine bs := by
  unfold getNum
  split
  · exact .inl rfl
  · rename_i n B1 d1 h1
    have k1 := getLen_keeps _ _ h1 k
    split
    · exact .inl rfl
    · rename_i a B2 d2 h2
      have k2 := getBits_keeps _ _ _ h2 k1
      split
      · exact .inr rfl
      · exact k2
theorem getSgn_keeps (k : Okd bs B d) : (getSgn bs t B d).Fine bs := by
  have h := getNum_keeps (t := t) k
  unfold getSgn
  split
  · rename_i e he
    rw [he] at h
    exact h
  · rename_i v B1 d1 he
    rw [he] at h
    have k1 : Okd bs B1 d1 := h
    unfold getSign
    split
    · exact k1
    · split
      · exact .inl rfl
      · rename_i b B2 d2 hg
        exact getEv_keeps hg k1
theorem getOne_keeps {n : Nat} (k : Okd bs B d) : (getOne bs t n B d).Fine bs := by
  unfold getOne
  split
  · exact .inl rfl
  · rename_i a B2 d2 h2
    have k2 := getBits_keeps _ _ _ h2 k
    split
    · exact .inr rfl
    · exact k2
theorem gotOf_keeps {a : Act5} (k : Okd bs B d) : (gotOf bs a B d = .bad 1 ∧ ∀ B d, gotOf bs a B d = .bad 1) ∨ (gotOf bs a B d).Fine bs := by
  unfold gotOf getAct
  by_cases h1 : a.2.1 < 0 ∨ 15 < a.2.1
  · simp only [if_pos h1]
    exact .inl ⟨trivial, fun _ _ => trivial⟩
  · by_cases h2 : a.1 = 1
    · simp only [if_neg h1, if_pos h2]
      exact .inr (getNum_keeps k)
    · by_cases h3 : a.1 = 2
      · simp only [if_neg h1, if_neg h2, if_pos h3]
        exact .inr (getSgn_keeps k)
      · by_cases h4 : a.2.2.1 < 1 ∨ 16 < a.2.2.1
        · simp only [if_neg h1, if_neg h2, if_neg h3, if_pos h4]
          exact .inl ⟨trivial, fun _ _ => trivial⟩
        · simp only [if_neg h1, if_neg h2, if_neg h3, if_neg h4]
          exact .inr (getOne_keeps k)
end

/-- A book and a decoder, apart. -/
structure Lens {X : EncSpec} {Y : DecSpec} (Z : BookSpec X Y) (w0 w : World) (b : Nat) (B : Chs) (y : Nat) (K : List Nat) (bs : List UInt8) (d : Dec) : Prop where
  bk : Z.Bo w b B
  de : Y.De w y K bs d
  fr : Fr [] w0 w
  nb : w0.heap.size ≤ b
  ny : w0.heap.size ≤ y
  sep : b ∉ y :: K
  ok : Okd bs B d
  len : bs.length ≤ 100000
section
variable {X : EncSpec} {Y : DecSpec} {Z : BookSpec X Y} {w0 w w1 w' : World} {b : Nat} {B B' : Chs} {y : Nat} {K : List Nat} {bs : List UInt8} {d d' : Dec} {a : Act5} {r : Ending}
theorem Lens.fr0 (h : Lens Z w0 w b B y K bs d) (hf : Fr [] w w') : Lens Z w0 w' b B y K bs d :=
  ⟨Z.fr h.bk hf (by simp), Y.fr h.de hf (by simp), h.fr.trans hf (by simp), h.nb, h.ny, h.sep, h.ok, h.len⟩
/-- What getting an act answers, and does. -/
def LensPost (Z : BookSpec X Y) (w0 w : World) (b : Nat) (y : Nat) (K : List Nat) (bs : List UInt8) (g : Got) (r : Ending) (w' : World) : Prop :=
  match g with
  | .bad e => r = .returned (.tuple #[.int .i64 0, .int .i64 e]) ∧ Fr [b, y] w w' ∧ (e = 1 → Fr [] w w')
  | .ok v B d => r = .returned (.tuple #[.int .i64 v, .int .i64 0]) ∧ Lens Z w0 w' b B y K bs d ∧ Fr [b, y] w w'
theorem LensPost.shape {g : Got} (h : LensPost Z w0 w b y K bs g r w') : ∃ z y : Int, r = .returned (.tuple #[.int .i64 z, .int .i64 y]) := by
  cases g with
  | bad e => exact ⟨_, _, h.1⟩
  | ok v B d => exact ⟨_, _, h.1⟩
theorem Lens.posted (h : Lens Z w0 w b B y K bs d) (h01 : Fr [] w w1) {g : Got} (hg : g = gotOf bs a B d) (hp : GetPost Z.Bo Y.De w1 b y K bs g r w') : LensPost Z w0 w b y K bs (gotOf bs a B d) r w' := by
  subst hg
  have hk := gotOf_keeps (a := a) h.ok
  unfold GetPost at hp
  unfold LensPost
  cases hg : gotOf bs a B d with
  | bad e =>
    rw [hg] at hp
    obtain ⟨hr, hf, h1⟩ := hp
    exact ⟨hr, (h01.mono (by simp)).trans hf (fun x hx => .inl hx), fun he => h01.trans (h1 he) (by simp)⟩
  | ok v B' d' =>
    rw [hg] at hp hk
    obtain ⟨hr, hb, hd, hf⟩ := hp
    rcases hk with ⟨hk, -⟩ | hk
    · cases hk
    · have hf' : Fr [b, y] w w' := (h01.mono (by simp)).trans hf (fun x hx => .inl hx)
      refine ⟨hr, ⟨hb, hd, h.fr.trans hf' (fun x hx => .inr ?_), h.nb, h.ny, h.sep, hk, h.len⟩, hf'⟩
      simp at hx
      rcases hx with rfl | rfl
      · exact h.nb
      · exact h.ny
/-- An act got by the book. -/
theorem Lens.get (h : Lens Z w0 w b B y K bs d) (ha : InA a) :
    Calls Try.prog 20 #[vAct a, pt b, pt y] w (LensPost Z w0 w b y K bs (gotOf bs a B d)) := by
  obtain ⟨h1, h2, h3, h4⟩ := ha
  refine lget_any a (pt b) (pt y) w _ (fun r w' hq => hq.shape) ?_ ?_ ?_
  · intro hk w1 hf
    have hq := h.fr0 hf
    refine (Z.get w1 b B y K bs d a.2.1 hq.bk hq.de hq.sep hq.ok.fine hq.ok.rest hq.ok.lo hq.ok.hi hq.ok.at_ hq.len h2).mono fun r w' hp => h.posted hf ?_ hp
    unfold gotOf; rw [hk]; rfl
  · intro hk w1 hf
    have hq := h.fr0 hf
    refine (Z.getS w1 b B y K bs d a.2.1 hq.bk hq.de hq.sep hq.ok.fine hq.ok.rest hq.ok.lo hq.ok.hi hq.ok.at_ hq.len h2).mono fun r w' hp => h.posted hf ?_ hp
    unfold gotOf; rw [hk]; rfl
  · intro hk1 hk2 w1 hf
    have hq := h.fr0 hf
    refine (Z.getO w1 b B y K bs d a.2.1 a.2.2.1 hq.bk hq.de hq.sep hq.ok.fine hq.ok.rest hq.ok.lo hq.ok.hi hq.ok.at_ hq.len h2 h3).mono fun r w' hp => h.posted hf ?_ hp
    unfold gotOf; rw [getAct_k3 hk1 hk2]
end

/-- An act got by the document's book. -/
def EyePost (q p : Nat) (A : Option Addr) (cc : Nat) (bs : List UInt8) (w : World) (g : Got) (r : Ending) (w' : World) : Prop :=
  match g with
  | .bad e => r = .returned (.tuple #[.int .i64 0, .int .i64 e]) ∧ Fr [q, p] w w' ∧ (e = 1 → Fr [] w w')
  | .ok v B d => r = .returned (.tuple #[.int .i64 v, .int .i64 0]) ∧ Eye w' q B p A cc bs d ∧ Fr [q, p] w w'
section
variable {w w1 w' : World} {q p cc : Nat} {A : Option Addr} {B : Chs} {bs : List UInt8} {d : Dec} {a : Act5} {r : Ending} {g : Got}
theorem EyePost.shape (h : EyePost q p A cc bs w g r w') : ∃ z y : Int, r = .returned (.tuple #[.int .i64 z, .int .i64 y]) := by
  cases g with
  | bad e => exact ⟨_, _, h.1⟩
  | ok v B d => exact ⟨_, _, h.1⟩
theorem GotPost.eye (hf : Fr [] w w1) (hg : g.Fine bs) (h : GotPost q p A cc bs w1 g r w') : EyePost q p A cc bs w g r w' := by
  cases g with
  | bad e =>
    obtain ⟨hr, h1⟩ := h
    refine ⟨hr, (hf.mono (by simp)).trans h1 (fun x hx => .inl hx), fun he => ?_⟩
    rcases hg with hg | hg <;> omega
  | ok v B d =>
    obtain ⟨hr, h1, h2⟩ := h
    exact ⟨hr, h1, (hf.mono (by simp)).trans h2 (fun x hx => .inl hx)⟩
theorem Eye.get (h : Eye w q B p A cc bs d) (ho : Okd bs B d) (hn : bs.length ≤ 100000) :
    Calls Try.prog 21 #[vAct a, pt q, pt p] w (EyePost q p A cc bs w (gotOf bs a B d)) := by
  obtain ⟨k, t, n, x⟩ := a
  refine lgetRef_any (k, t, n, x) (pt q) (pt p) w _ (fun r w' hq => hq.shape) ?_ ?_ ?_
  · intro hk w1 hf
    simp only at hk ⊢
    subst hk
    by_cases ht : t < 0 ∨ 15 < t
    · refine (rGet_bad t (pt q) (pt p) w1 (by omega)).mono ?_
      rintro r w' ⟨hr, rfl⟩
      unfold gotOf getAct
      rw [if_pos ht]
      exact ⟨hr, hf.mono (by simp), fun _ => hf⟩
    · have := rGet_any w1 q p t.toNat cc A bs d B (h.fr0 hf) (by omega) hn
      rw [show ((t.toNat : Nat) : Int) = t by omega] at this
      refine this.mono fun r w' hp => ?_
      unfold gotOf getAct
      rw [if_neg ht, if_pos rfl]
      exact hp.eye hf (getNum_keeps ho)
  · intro hk w1 hf
    simp only at hk ⊢
    subst hk
    by_cases ht : t < 0 ∨ 15 < t
    · refine (rGetSigned_bad t (pt q) (pt p) w1 (by omega)).mono ?_
      rintro r w' ⟨hr, rfl⟩
      unfold gotOf getAct
      rw [if_pos ht]
      exact ⟨hr, hf.mono (by simp), fun _ => hf⟩
    · have := rGetSigned_any w1 q p t.toNat cc A bs d B (h.fr0 hf) (by omega) hn
      rw [show ((t.toNat : Nat) : Int) = t by omega] at this
      refine this.mono fun r w' hp => ?_
      unfold gotOf getAct
      rw [if_neg ht, if_neg (by simp only; omega), if_pos rfl]
      exact hp.eye hf (getSgn_keeps ho)
  · intro hk1 hk2 w1 hf
    simp only at hk1 hk2 ⊢
    by_cases ht : t < 0 ∨ 15 < t
    · refine (rGetOne_bad t n (pt q) (pt p) w1 (by omega)).mono ?_
      rintro r w' ⟨hr, rfl⟩
      unfold gotOf getAct
      rw [if_pos ht]
      exact ⟨hr, hf.mono (by simp), fun _ => hf⟩
    · by_cases hn2 : n < 1 ∨ 16 < n
      · refine (rGetOne_bad t n (pt q) (pt p) w1 (by omega)).mono ?_
        rintro r w' ⟨hr, rfl⟩
        unfold gotOf getAct
        rw [if_neg ht, if_neg hk1, if_neg hk2, if_pos hn2]
        exact ⟨hr, hf.mono (by simp), fun _ => hf⟩
      · have := rGetOne_any w1 q p t.toNat n.toNat cc A bs d B (h.fr0 hf) (by omega) (by omega) (by omega) hn
        rw [show ((t.toNat : Nat) : Int) = t by omega, show ((n.toNat : Nat) : Int) = n by omega] at this
        refine this.mono fun r w' hp => ?_
        unfold gotOf getAct
        rw [if_neg ht, if_neg hk1, if_neg hk2, if_neg hn2]
        exact hp.eye hf (getOne_keeps ho)
end
end Go.Proofs.Ytfjlepnodmeaaaa
