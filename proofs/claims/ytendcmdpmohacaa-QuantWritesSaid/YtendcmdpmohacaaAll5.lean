/-
  What several laws' proofs lean on, part 5; each part says its conditions below.
-/
import Derived.Test.YtendcmdpmohacaaAll1
import Derived.Test.YtendcmdpmohacaaAll2
import Derived.Test.YtendcmdpmohacaaAll3
import Derived.Test.YtendcmdpmohacaaAll4
/-
  The program's book and encoder and the document's, all apart, with the same chances and code; a block put by both.
-/
namespace Go.Proofs.Ytendcmdpmohacaa
open Go.RowKit

theorem own_below {w : World} {v : Value} {e : TypeId} {xs : List Value} (h : Own w e v xs) : ∀ k, v.ownBlock = some k → k < w.heap.size := h.lt
structure Duo8 {X : EncSpec} {Y : DecSpec} (Z : QuantSpec X Y) (w0 w : World) (b : Nat) (B : Chs) (p : Nat) (D : List Nat) (e : Enc) (q m : Nat) (v : Value) : Prop where
  a : Quill8 Z w0 w b B p D e
  r : Pen w q B m v e
  sep : ∀ k ∈ b :: p :: D, k ≠ q ∧ k ≠ m ∧ v.ownBlock ≠ some k
  nq : w0.heap.size ≤ q
  nm : w0.heap.size ≤ m
  nv : ∀ k, v.ownBlock = some k → w0.heap.size ≤ k
/-- What putting a block answers and does: the document's. -/
def PenPost8 (w : World) (q m : Nat) (v : Value) (B : Chs) (e : Enc) (xs : List Int) (t : Int) (r : Ending) (w' : World) : Prop :=
  r = .returned (.int .i64 (errBlk xs t)) ∧ ∃ v', Pen w' q (bkBlk xs t B) m v' (enBlk xs t B e) ∧ PenFr q m v v' w w'
def QuillPost8 {X : EncSpec} {Y : DecSpec} (Z : QuantSpec X Y) (w0 w : World) (b : Nat) (B : Chs) (p : Nat) (D : List Nat) (e : Enc) (xs : List Int) (t : Int) (r : Ending) (w' : World) : Prop :=
  r = .returned (.int .i64 (errBlk xs t)) ∧ ∃ D', Quill8 Z w0 w' b (bkBlk xs t B) p D' (enBlk xs t B e) ∧ Fr (b :: p :: D) w w' ∧ ∀ k ∈ D', k ∈ D ∨ w.heap.size ≤ k
section
variable {X : EncSpec} {Y : DecSpec} {Z : QuantSpec X Y} {w0 w w' : World} {b : Nat} {B : Chs} {p : Nat} {D : List Nat} {e : Enc} {q m : Nat} {v : Value} {xs : List Int} {t : Int} {r : Ending}
theorem Duo8.fr0 (h : Duo8 Z w0 w b B p D e q m v) (hf : Fr [] w w') : Duo8 Z w0 w' b B p D e q m v :=
  ⟨h.a.fr0 hf, h.r.fr0 hf, h.sep, h.nq, h.nm, h.nv⟩
theorem Quill8.lt (h : Quill8 Z w0 w b B p D e) : ∀ k ∈ b :: p :: D, k < w.heap.size := by
  intro k hk
  rcases List.mem_cons.1 hk with rfl | hk
  · exact Z.lt h.bk
  · exact X.lt h.li.en k hk
theorem Quill8.news (h : Quill8 Z w0 w b B p D e) : ∀ k ∈ b :: p :: D, w0.heap.size ≤ k := by
  intro k hk
  rcases List.mem_cons.1 hk with rfl | hk
  · exact h.nb
  · exact h.li.new k hk
theorem Quill8.frS {S : List Nat} (h : Quill8 Z w0 w b B p D e) (hf : Fr S w w') (h1 : ∀ k ∈ b :: p :: D, k ∉ S) (h2 : ∀ x ∈ S, w0.heap.size ≤ x) : Quill8 Z w0 w' b B p D e :=
  ⟨Z.fr h.bk hf (h1 b (List.mem_cons_self ..)), ⟨X.fr h.li.en hf (fun k hk => h1 k (List.mem_cons_of_mem _ hk)), h.li.fr.trans hf (fun x hx => .inr (h2 x hx)), h.li.new, h.li.ok⟩, h.nb, h.sep, h.fine⟩
theorem pen_frS {S : List Nat} (h : Pen w q B m v e) (hf : Fr S w w') (h1 : q ∉ S) (h2 : m ∉ S) (h3 : ∀ k, v.ownBlock = some k → k ∉ S) : Pen w' q B m v e :=
  ⟨h.bk.fr hf h1, h.en.fr hf h2 h3, h.qp, h.qv, h.fine, h.ok⟩
/-- A row of the argument put, by the program. -/
theorem Quill8.row (h : Quill8 Z w0 w b B p D e) {i : RowI} (hr : RowOk w0 i) (t : Int) (hx : i.2.2.length ≤ 100) (ht : InI t) (hn : e.n ≤ 50000) :
    Calls Try.prog 24 #[pt b, pt p, .int .i64 t, .slice i.1 i.2.2.length i.2.1] w (QuillPost8 Z w0 w b B p D e i.2.2 t) := by
  refine h.put i.1 i.2.1 i.2.2 t (hr.fr0 h.li.fr).src (fun h0 k hk hm => ?_) (by omega) hr.js ht hn
  have h1 := hr.lt h0 k hk
  have h2 := h.news k hm
  omega
/-- By the document. -/
theorem pen_row (h : Pen w q B m v e) (i : RowI) (hs : Src w (.slice i.1 i.2.2.length i.2.1) (i.2.2.map I64)) (t : Int) (hx : i.2.2.length ≤ 100) (hn : e.n ≤ 50000) :
    Calls Try.prog 25 #[pt q, pt m, .int .i64 t, .slice i.1 i.2.2.length i.2.1] w (PenPost8 w q m v B e i.2.2 t) := by
  unfold PenPost8 errBlk bkBlk enBlk
  cases hok : okPut i.2.2 t
  · refine (rput8_bad w (pt q) (pt m) i.1 i.2.1 i.2.2 t hs (by omega) hok).mono ?_
    rintro r w' ⟨rfl, rfl⟩
    exact ⟨rfl, v, h, PenFr.refl _ _ _ _⟩
  · refine (rput8_ok w q m v B e i.1 i.2.1 i.2.2 t h hs (by omega) hn hok).mono ?_
    rintro r w' ⟨rfl, v', h1, h2⟩
    exact ⟨rfl, v', h1, h2⟩
theorem Duo8.afterA (h : Duo8 Z w0 w b B p D e q m v) (hA : QuillPost8 Z w0 w b B p D e xs t r w') :
    r = .returned (.int .i64 (errBlk xs t)) ∧ ∃ D', Quill8 Z w0 w' b (bkBlk xs t B) p D' (enBlk xs t B e) ∧ Pen w' q B m v e ∧ ∀ k ∈ b :: p :: D', k ≠ q ∧ k ≠ m ∧ v.ownBlock ≠ some k := by
  obtain ⟨hr, D', hq, hf, hd⟩ := hA
  have hql := h.r.bk.lt
  have hml := Re.lt h.r.en
  refine ⟨hr, D', hq, pen_frS h.r hf (fun hm => (h.sep q hm).1 rfl) (fun hm => (h.sep m hm).2.1 rfl) (fun k hk hm => (h.sep k hm).2.2 hk), fun k hk => ?_⟩
  rcases List.mem_cons.1 hk with rfl | hk
  · exact h.sep _ (List.mem_cons_self ..)
  · rcases List.mem_cons.1 hk with rfl | hk
    · exact h.sep _ (List.mem_cons_of_mem _ (List.mem_cons_self ..))
    · rcases hd k hk with h1 | h1
      · exact h.sep k (List.mem_cons_of_mem _ (List.mem_cons_of_mem _ h1))
      · refine ⟨by omega, by omega, fun hv => ?_⟩
        have := own_below h.r.en.2.1 k hv
        omega
theorem duo8_afterB {B' : Chs} {e' : Enc} (h : Quill8 Z w0 w b B' p D e') (hs : ∀ k ∈ b :: p :: D, k ≠ q ∧ k ≠ m ∧ v.ownBlock ≠ some k) (nq : w0.heap.size ≤ q) (nm : w0.heap.size ≤ m) (nv : ∀ k, v.ownBlock = some k → w0.heap.size ≤ k)
    (hB : B' = bkBlk xs t B) (he : e' = enBlk xs t B e) (hp : PenPost8 w q m v B e xs t r w') : r = .returned (.int .i64 (errBlk xs t)) ∧ ∃ v', Duo8 Z w0 w' b B' p D e' q m v' := by
  obtain ⟨hr, v', hp2, hf⟩ := hp
  have hlt := h.lt
  refine ⟨hr, v', h.frS hf.1 (fun k hk hm => ?_) (fun x hx => ?_), by rw [hB, he]; exact hp2, fun k hk => ⟨(hs k hk).1, (hs k hk).2.1, fun hv => ?_⟩, nq, nm, fun k hk => ?_⟩
  · rcases List.mem_cons.1 hm with hm | hm
    · exact (hs k hk).1 hm
    · rcases List.mem_cons.1 hm with hm | hm
      · exact (hs k hk).2.1 hm
      · exact (hs k hk).2.2 (by simpa using hm)
  · rcases List.mem_cons.1 hx with rfl | hx
    · exact nq
    · rcases List.mem_cons.1 hx with rfl | hx
      · exact nm
      · exact nv x (by simpa using hx)
  · rcases hf.2 with h1 | ⟨g, h1, h2⟩
    · exact (hs k hk).2.2 (h1 ▸ hv)
    · rw [h1] at hv
      injection hv with hv
      have := hlt k hk
      omega
  · rcases hf.2 with h1 | ⟨g, h1, h2⟩
    · exact nv k (h1 ▸ hk)
    · rw [h1] at hk
      injection hk with hk
      have := h.li.fr.size
      omega
end
end Go.Proofs.Ytendcmdpmohacaa

/-
  A book and a decoder in memory that is new since the law's beginning; what getting a block makes of them, out of the contracts.
-/
namespace Go.Proofs.Ytendcmdpmohacaa
open Go.RowKit

section
variable {bs : List UInt8} {t : Nat} {B B' : Chs} {d d' : Dec}
theorem getVals_keeps : ∀ (k : Nat) (acc : List Int) {B : Chs} {d : Dec}, Okd bs B d → (getVals bs t k acc B d).Fine bs
  | 0, acc, B, d, h => h
  | k + 1, acc, B, d, h => by
    have hk := getSgn_keeps (t := t) h
    unfold getVals
    cases hg : getSgn bs t B d with
    | bad e =>
      rw [hg] at hk
      show e ≠ 1
      rcases hk with rfl | rfl <;> decide
    | ok v B1 d1 =>
      rw [hg] at hk
      exact getVals_keeps k (acc ++ [v]) hk
theorem endL_keeps (n k : Nat) {g : GotL} (h : g.Fine bs) : (endL n k g).Fine bs := by
  cases g with
  | bad e => exact h
  | ok l B d =>
    show GotL.Fine bs (if 0 < k ∧ numAt l (k - 1) = 0 then GotL.bad 51 else GotL.ok (unsortL (fillL n l)) B d)
    split
    · show (51 : Int) ≠ 1
      decide
    · exact h
theorem getBlk_keeps {n : Nat} (h : Okd bs B d) : (getBlk bs t n B d).Fine bs := by
  have hk := getNum_keeps (t := t) h
  unfold getBlk
  cases hg : getNum bs t B d with
  | bad e =>
    rw [hg] at hk
    show e ≠ 1
    rcases hk with rfl | rfl <;> decide
  | ok v B1 d1 =>
    rw [hg] at hk
    show GotL.Fine bs (if (n : Int) < v then GotL.bad 51 else endL n v.toNat (getVals bs (t + 1) v.toNat [] B1 d1))
    split
    · show (51 : Int) ≠ 1
      decide
    · exact endL_keeps _ _ (getVals_keeps _ _ hk)
theorem gotBlk_keeps {t n : Int} (h : Okd bs B d) : (okGet t n = false ∧ gotBlk bs t n B d = .bad 1) ∨ (okGet t n = true ∧ gotBlk bs t n B d = getBlk bs t.toNat n.toNat B d ∧ (gotBlk bs t n B d).Fine bs) := by
  unfold gotBlk
  cases hok : okGet t n
  · exact .inl ⟨rfl, if_neg (by simp)⟩
  · exact .inr ⟨rfl, if_pos rfl, by rw [if_pos rfl]; exact getBlk_keeps h⟩
end

structure Lens8 {X : EncSpec} {Y : DecSpec} (Z : QuantSpec X Y) (w0 w : World) (b : Nat) (B : Chs) (y : Nat) (K : List Nat) (bs : List UInt8) (d : Dec) : Prop where
  bk : Z.Bo w b B
  de : Y.De w y K bs d
  fr : Fr [] w0 w
  nb : w0.heap.size ≤ b
  ny : w0.heap.size ≤ y
  sep : b ∉ y :: K
  ok : Okd bs B d
  len : bs.length ≤ 100000
section
variable {X : EncSpec} {Y : DecSpec} {Z : QuantSpec X Y} {w0 w w' : World} {b : Nat} {B B' : Chs} {y : Nat} {K : List Nat} {bs : List UInt8} {d d' : Dec}
theorem Lens8.fr0 (h : Lens8 Z w0 w b B y K bs d) (hf : Fr [] w w') : Lens8 Z w0 w' b B y K bs d :=
  ⟨Z.fr h.bk hf (by simp), Y.fr h.de hf (by simp), h.fr.trans hf (by simp), h.nb, h.ny, h.sep, h.ok, h.len⟩
/-- What getting a block answers, and does. -/
def LensPost8 (Z : QuantSpec X Y) (w0 w : World) (b : Nat) (y : Nat) (K : List Nat) (bs : List UInt8) (g : GotL) (r : Ending) (w' : World) : Prop :=
  match g with
  | .bad e => (∃ A c, r = .returned (.tuple #[.slice A 0 c, .int .i64 e]) ∧ Src w' (.slice A 0 c) []) ∧ Fr [b, y] w w'
  | .ok l B d => (∃ A c, r = .returned (.tuple #[.slice A l.length c, .int .i64 0]) ∧ Src w' (.slice A l.length c) (l.map I64) ∧ ∀ k, (Value.slice A l.length c).ownBlock = some k → w.heap.size ≤ k) ∧ Lens8 Z w0 w' b B y K bs d ∧ Fr [b, y] w w'
/-- A block got. -/
theorem Lens8.get (h : Lens8 Z w0 w b B y K bs d) (t n : Int) (ht : InI t) (hn : InI n) :
    Calls Try.prog 30 #[pt b, pt y, .int .i64 t, .int .i64 n] w (LensPost8 Z w0 w b y K bs (gotBlk bs t n B d)) := by
  refine (Z.get w b B y K bs d t n h.bk h.de h.sep h.ok.fine h.ok.rest h.ok.lo h.ok.hi h.ok.at_ h.len ht hn).mono fun r w' hp => ?_
  have hk := gotBlk_keeps (t := t) (n := n) h.ok
  unfold GetPost8 at hp
  unfold LensPost8
  cases hg : gotBlk bs t n B d with
  | bad e =>
    rw [hg] at hp
    exact ⟨hp.1, hp.2.1⟩
  | ok l B' d' =>
    rw [hg] at hp hk
    obtain ⟨hr, hb, hd, hf⟩ := hp
    rcases hk with ⟨-, hk⟩ | ⟨-, -, hk⟩
    · cases hk
    · refine ⟨hr, ⟨hb, hd, h.fr.trans hf (fun x hx => .inr ?_), h.nb, h.ny, h.sep, hk, h.len⟩, hf⟩
      simp at hx
      rcases hx with rfl | rfl
      · exact h.nb
      · exact h.ny
end
end Go.Proofs.Ytendcmdpmohacaa
