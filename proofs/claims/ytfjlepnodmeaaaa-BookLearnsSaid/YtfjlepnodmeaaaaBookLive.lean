/-
  A book and an encoder in memory that is new since the law's beginning; what an act makes of them, out of the book's contracts; the document's likewise.
-/
import Derived.Test.YtfjlepnodmeaaaaBookAct
import Derived.Test.YtfjlepnodmeaaaaRef5d
namespace Go.Proofs.Ytfjlepnodmeaaaa
open Go.RowKit

/-! What an act answers, and what it makes of the chances and of the code. -/
def errOf (a : Act5) : Int := match evsOf a with | none => 1 | some _ => 0
def bkAct (a : Act5) (B : Chs) : Chs := match evsOf a with | none => B | some l => learned (topicOf a) B l
def enAct (a : Act5) (B : Chs) (e : Enc) : Enc := match evsOf a with | none => e | some l => puts e (track (topicOf a) B l)
theorem bkAct_fine {a : Act5} {B : Chs} (h : FineB B) : FineB (bkAct a B) := by
  unfold bkAct
  split
  · exact h
  · exact learned_fine _ _ h
theorem enAct_ok {a : Act5} {B : Chs} {e : Enc} (h : FineB B) (he : e.Ok) : (enAct a B e).Ok := by
  unfold enAct
  split
  · exact he
  · exact puts_ok he (track_rights _ _ h)
theorem enAct_n (a : Act5) (B : Chs) (e : Enc) : (enAct a B e).n ≤ e.n + 42 := by
  unfold enAct
  split
  · omega
  · rename_i l h
    have h1 := puts_n (track (topicOf a) B l) e
    have h2 := actEvs_length h
    rw [track_length] at h1
    omega
theorem errOf_cases (a : Act5) : (errOf a = 0 ∧ ∃ l, evsOf a = some l) ∨ (errOf a = 1 ∧ evsOf a = none ∧ ∀ B e, bkAct a B = B ∧ enAct a B e = e) := by
  unfold errOf bkAct enAct
  cases h : evsOf a with
  | none => exact .inr ⟨rfl, rfl, fun _ _ => ⟨rfl, rfl⟩⟩
  | some l => exact .inl ⟨rfl, l, rfl⟩
theorem evsOf_topic {a : Act5} {l : List Ev} (h : evsOf a = some l) : topicOf a < 16 ∧ (a.2.1 = (topicOf a : Int)) := by
  unfold evsOf actEvs at h
  unfold topicOf
  split at h
  · cases h
  · omega

/-- A book and an encoder, apart. -/
structure Quill {X : EncSpec} {Y : DecSpec} (Z : BookSpec X Y) (w0 w : World) (b : Nat) (B : Chs) (p : Nat) (D : List Nat) (e : Enc) : Prop where
  bk : Z.Bo w b B
  li : Live X w0 w p D e
  nb : w0.heap.size ≤ b
  sep : b ∉ p :: D
  fine : FineB B
section
variable {X : EncSpec} {Y : DecSpec} {Z : BookSpec X Y} {w0 w w1 w' : World} {b : Nat} {B B' : Chs} {p : Nat} {D D' : List Nat} {e e' : Enc}
theorem Quill.fr0 (h : Quill Z w0 w b B p D e) (hf : Fr [] w w') : Quill Z w0 w' b B p D e :=
  ⟨Z.fr h.bk hf (by simp), h.li.fr0 hf, h.nb, h.sep, h.fine⟩
/-- What putting an act does. -/
def QuillPost (Z : BookSpec X Y) (w0 w : World) (b : Nat) (B : Chs) (p : Nat) (D : List Nat) (e : Enc) (a : Act5) (r : Ending) (w' : World) : Prop :=
  r = .returned (.int .i64 (errOf a)) ∧ ∃ D', Quill Z w0 w' b (bkAct a B) p D' (enAct a B e) ∧ Fr (b :: p :: D) w w' ∧ (∀ k ∈ D', k ∈ D ∨ w.heap.size ≤ k) ∧ (evsOf a = none → Fr [] w w')
theorem Quill.posted {a : Act5} {r : Ending} (h : Quill Z w0 w b B p D e) (h01 : Fr [] w w1) {k n : Int} (ha : actEvs k a.2.1 n a.2.2.2 = evsOf a) (hp : PutPost Z.Bo X.En w1 b B p D e k a.2.1 n a.2.2.2 r w') : QuillPost Z w0 w b B p D e a r w' := by
  unfold PutPost at hp
  rw [ha] at hp
  unfold QuillPost errOf bkAct enAct
  cases hl : evsOf a with
  | none =>
    rw [hl] at hp
    obtain ⟨hr, hf⟩ := hp
    have hf' := h01.trans hf (by simp)
    exact ⟨hr, D, h.fr0 hf', hf'.mono (by simp), fun k hk => .inl hk, fun _ => hf'⟩
  | some l =>
    rw [hl] at hp
    obtain ⟨hr, D', hb, he, hf, hd⟩ := hp
    have hf' : Fr (b :: p :: D) w w' := (h01.mono (by simp)).trans hf (fun x hx => .inl hx)
    have hd' : ∀ k ∈ D', k ∈ D ∨ w.heap.size ≤ k := fun k hk => (hd k hk).imp id (fun h => Nat.le_trans h01.size h)
    have hbl := Z.lt h.bk
    refine ⟨hr, D', ⟨hb, ⟨he, h.li.fr.trans hf' ?_, ?_, puts_ok h.li.ok (track_rights _ _ h.fine)⟩, h.nb, ?_, learned_fine _ _ h.fine⟩, hf', hd', fun he => by cases he⟩
    · intro x hx
      rcases List.mem_cons.1 hx with rfl | hx
      · exact .inr h.nb
      · exact .inr (h.li.new x hx)
    · intro k hk
      rcases List.mem_cons.1 hk with rfl | hk
      · exact h.li.new _ (List.mem_cons_self ..)
      · rcases hd' k hk with h1 | h1
        · exact h.li.new k (List.mem_cons_of_mem _ h1)
        · exact Nat.le_trans h.li.fr.size h1
    · intro hm
      rcases List.mem_cons.1 hm with hm | hm
      · exact h.sep (by rw [hm]; exact List.mem_cons_self ..)
      · rcases hd' b hm with h1 | h1
        · exact h.sep (List.mem_cons_of_mem _ h1)
        · omega
/-- An act put by the book. -/
theorem Quill.put {a : Act5} (h : Quill Z w0 w b B p D e) (ha : InA a) (hn : e.n ≤ 50000) :
    Calls Try.prog 13 #[vAct a, pt b, pt p] w (QuillPost Z w0 w b B p D e a) := by
  obtain ⟨h1, h2, h3, h4⟩ := ha
  refine lput_any a (pt b) (pt p) w _ (fun r w' hq => ⟨_, hq.1⟩) ?_ ?_ ?_
  · intro hk w1 hf
    have hq := h.fr0 hf
    refine (Z.put w1 b B p D e a.2.1 a.2.2.2 hq.bk hq.li.en hq.sep hq.fine hq.li.ok hn h2 h4).mono fun r w' hp => h.posted hf ?_ hp
    unfold evsOf; rw [hk]; rfl
  · intro hk w1 hf
    have hq := h.fr0 hf
    refine (Z.putS w1 b B p D e a.2.1 a.2.2.2 hq.bk hq.li.en hq.sep hq.fine hq.li.ok hn h2 h4).mono fun r w' hp => h.posted hf ?_ hp
    unfold evsOf; rw [hk]; rfl
  · intro hk1 hk2 w1 hf
    have hq := h.fr0 hf
    refine (Z.putO w1 b B p D e a.2.1 a.2.2.1 a.2.2.2 hq.bk hq.li.en hq.sep hq.fine hq.li.ok hn h2 h3 h4).mono fun r w' hp => h.posted hf ?_ hp
    unfold evsOf; rw [actEvs_k3 hk1 hk2]
end

/-- An act put by the document's book. -/
def PenPost (w : World) (q m : Nat) (v : Value) (B : Chs) (e : Enc) (a : Act5) (r : Ending) (w' : World) : Prop :=
  r = .returned (.int .i64 (errOf a)) ∧ ∃ v', Pen w' q (bkAct a B) m v' (enAct a B e) ∧ PenFr q m v v' w w'
theorem PenAt.posted {w w1 w' : World} {q m : Nat} {v : Value} {B : Chs} {e : Enc} {a : Act5} {r : Ending} {l : List Ev} (hf : Fr [] w w1) (hl : evsOf a = some l) (hr : r = .returned (.int .i64 0)) (h : PenAt w1 q m (topicOf a) v B e w' l) : PenPost w q m v B e a r w' := by
  unfold PenPost errOf bkAct enAct
  rw [hl]
  obtain ⟨v', h1, h2⟩ := h
  refine ⟨hr, v', h1, (hf.mono (by simp)).trans h2.1 (fun x hx => .inl hx), ?_⟩
  rcases h2.2 with h3 | ⟨g, h3, h4⟩
  · exact .inl h3
  · exact .inr ⟨g, h3, Nat.le_trans hf.size h4⟩
theorem Pen.refused {w w1 : World} {q m : Nat} {v : Value} {B : Chs} {e : Enc} {a : Act5} {r : Ending} (h : Pen w q B m v e) (hf : Fr [] w w1) (hl : evsOf a = none) (hr : r = .returned (.int .i64 1)) : PenPost w q m v B e a r w1 := by
  unfold PenPost errOf bkAct enAct
  rw [hl]
  exact ⟨hr, v, h.fr0 hf, hf.mono (by simp), .inl rfl⟩
theorem Pen.put {w : World} {q m : Nat} {v : Value} {B : Chs} {e : Enc} {a : Act5} (h : Pen w q B m v e) (ha : InA a) (hn : e.n ≤ 50000) :
    Calls Try.prog 14 #[vAct a, pt q, pt m] w (PenPost w q m v B e a) := by
  obtain ⟨k, t, n, x⟩ := a
  obtain ⟨h1, h2, h3, h4⟩ := ha
  simp only at h1 h2 h3 h4
  refine lputRef_any (k, t, n, x) (pt q) (pt m) w _ (fun r w' hq => ⟨_, hq.1⟩) ?_ ?_ ?_
  · intro hk w1 hf
    simp only at hk ⊢
    subst hk
    by_cases hg : (0 ≤ t ∧ t ≤ 15) ∧ 0 ≤ x ∧ x ≤ 1048576
    · have hl : evsOf (1, t, n, x) = some (numEvs x.toNat) := by
        unfold evsOf actEvs
        rw [if_neg (by simp only; omega), if_pos rfl, if_pos hg.2]
      have := rPut_ok w1 q m t.toNat x.toNat v B e (h.fr0 hf) (by omega) (by omega) (by omega)
      rw [show ((t.toNat : Nat) : Int) = t by omega, show ((x.toNat : Nat) : Int) = x by omega] at this
      exact this.mono fun r w' ⟨hr, hp⟩ => hp.posted hf hl hr
    · have hl : evsOf (1, t, n, x) = none := by
        by_cases ht : t < 0 ∨ 15 < t
        · unfold evsOf actEvs; rw [if_pos ht]
        · unfold evsOf actEvs; rw [if_neg ht, if_pos rfl, if_neg (by simp only; omega)]
      refine (rPut_bad t x (pt q) (pt m) w1 (by omega)).mono ?_
      rintro r w' ⟨hr, rfl⟩
      exact h.refused hf hl hr
  · intro hk w1 hf
    simp only at hk ⊢
    subst hk
    by_cases hg : (0 ≤ t ∧ t ≤ 15) ∧ -1048576 ≤ x ∧ x ≤ 1048576
    · have hl : evsOf (2, t, n, x) = some (sgnEvs x) := by
        unfold evsOf actEvs
        rw [if_neg (by simp only; omega), if_neg (by simp only; omega), if_pos rfl, if_pos hg.2]
      have := rPutSigned_ok w1 q m t.toNat x v B e (h.fr0 hf) (by omega) (by omega) (by omega) (by omega)
      rw [show ((t.toNat : Nat) : Int) = t by omega] at this
      exact this.mono fun r w' ⟨hr, hp⟩ => hp.posted hf hl hr
    · have hl : evsOf (2, t, n, x) = none := by
        by_cases ht : t < 0 ∨ 15 < t
        · unfold evsOf actEvs; rw [if_pos ht]
        · unfold evsOf actEvs; rw [if_neg ht, if_neg (by simp only; omega), if_pos rfl, if_neg (by simp only; omega)]
      refine (rPutSigned_bad t x (pt q) (pt m) w1 (by omega) h4.1 h4.2).mono ?_
      rintro r w' ⟨hr, rfl⟩
      exact h.refused hf hl hr
  · intro hk1 hk2 w1 hf
    simp only at hk1 hk2 ⊢
    by_cases hg : (0 ≤ t ∧ t ≤ 15) ∧ 1 ≤ n ∧ n ≤ 16 ∧ 0 ≤ x ∧ x < n
    · have hl : evsOf (k, t, n, x) = some (oneEvs n.toNat x.toNat) := by
        unfold evsOf actEvs
        rw [if_neg (by simp only; omega), if_neg (by simp only; omega), if_neg (by simp only; omega), if_pos hg.2]
      have := rPutOne_ok w1 q m t.toNat n.toNat x.toNat v B e (h.fr0 hf) (by omega) (by omega) (by omega) (by omega) (by omega)
      rw [show ((t.toNat : Nat) : Int) = t by omega, show ((n.toNat : Nat) : Int) = n by omega, show ((x.toNat : Nat) : Int) = x by omega] at this
      exact this.mono fun r w' ⟨hr, hp⟩ => hp.posted hf hl hr
    · have hl : evsOf (k, t, n, x) = none := by
        by_cases ht : t < 0 ∨ 15 < t
        · unfold evsOf actEvs; rw [if_pos ht]
        · unfold evsOf actEvs; rw [if_neg ht, if_neg (by simp only; omega), if_neg (by simp only; omega), if_neg (by simp only; omega)]
      refine (rPutOne_bad t n x (pt q) (pt m) w1 (by omega)).mono ?_
      rintro r w' ⟨hr, rfl⟩
      exact h.refused hf hl hr

/-- The two books and encoders, all apart. -/
structure Duo {X : EncSpec} {Y : DecSpec} (Z : BookSpec X Y) (w0 w : World) (b : Nat) (B : Chs) (p : Nat) (D : List Nat) (e : Enc) (q m : Nat) (v : Value) : Prop where
  a : Quill Z w0 w b B p D e
  r : Pen w q B m v e
  sep : ∀ k ∈ b :: p :: D, k ≠ q ∧ k ≠ m ∧ v.ownBlock ≠ some k
  nq : w0.heap.size ≤ q
  nm : w0.heap.size ≤ m
  nv : ∀ k, v.ownBlock = some k → w0.heap.size ≤ k
section
variable {X : EncSpec} {Y : DecSpec} {Z : BookSpec X Y} {w0 w w' w2 : World} {b : Nat} {B : Chs} {p : Nat} {D : List Nat} {e : Enc} {q m : Nat} {v : Value} {a : Act5} {r : Ending}
theorem Duo.fr0 (h : Duo Z w0 w b B p D e q m v) (hf : Fr [] w w') : Duo Z w0 w' b B p D e q m v :=
  ⟨h.a.fr0 hf, h.r.fr0 hf, h.sep, h.nq, h.nm, h.nv⟩
theorem Quill.lt (h : Quill Z w0 w b B p D e) : ∀ k ∈ b :: p :: D, k < w.heap.size := by
  intro k hk
  rcases List.mem_cons.1 hk with rfl | hk
  · exact Z.lt h.bk
  · exact X.lt h.li.en k hk
theorem Quill.news (h : Quill Z w0 w b B p D e) : ∀ k ∈ b :: p :: D, w0.heap.size ≤ k := by
  intro k hk
  rcases List.mem_cons.1 hk with rfl | hk
  · exact h.nb
  · exact h.li.new k hk
theorem Quill.frS {S : List Nat} (h : Quill Z w0 w b B p D e) (hf : Fr S w w') (h1 : ∀ k ∈ b :: p :: D, k ∉ S) (h2 : ∀ x ∈ S, w0.heap.size ≤ x) : Quill Z w0 w' b B p D e :=
  ⟨Z.fr h.bk hf (h1 b (List.mem_cons_self ..)), ⟨X.fr h.li.en hf (fun k hk => h1 k (List.mem_cons_of_mem _ hk)), h.li.fr.trans hf (fun x hx => .inr (h2 x hx)), h.li.new, h.li.ok⟩, h.nb, h.sep, h.fine⟩
theorem Pen.frS {S : List Nat} (h : Pen w q B m v e) (hf : Fr S w w') (h1 : q ∉ S) (h2 : m ∉ S) (h3 : ∀ k, v.ownBlock = some k → k ∉ S) : Pen w' q B m v e :=
  ⟨h.bk.fr hf h1, h.en.fr hf h2 h3, h.qp, h.qv, h.fine, h.ok⟩
end
end Go.Proofs.Ytfjlepnodmeaaaa
