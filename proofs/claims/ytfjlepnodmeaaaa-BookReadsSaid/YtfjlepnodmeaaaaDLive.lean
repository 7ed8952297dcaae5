/-
  An encoder in memory that is new since the law's beginning, and what a put makes of it, out of the coder's contracts.
-/
import Derived.Test.YtfjlepnodmeaaaaCodSpec
import Derived.Test.YtfjlepnodmeaaaaRegion
namespace Go.Proofs.Ytfjlepnodmeaaaa
open Go.RowKit

structure Live (X : EncSpec) (w0 w : World) (p : Nat) (D : List Nat) (e : Enc) : Prop where
  en : X.En w p D e
  fr : Fr [] w0 w
  new : ∀ k ∈ p :: D, w0.heap.size ≤ k
  ok : e.Ok
section
variable {X : EncSpec} {w0 w w' : World} {p : Nat} {D D' : List Nat} {e e' : Enc}
theorem Live.fr0 (h : Live X w0 w p D e) (hf : Fr [] w w') : Live X w0 w' p D e := ⟨X.fr h.en hf (by simp), h.fr.trans hf (by simp), h.new, h.ok⟩
theorem Live.put (h : Live X w0 w p D e) (hE : X.En w' p D' e') (hF : Fr (p :: D) w w') (hD : ∀ k ∈ D', k ∈ D ∨ w.heap.size ≤ k) (ho : e'.Ok) : Live X w0 w' p D' e' := by
  refine ⟨hE, h.fr.trans hF (fun x hx => .inr (h.new x hx)), fun k hk => ?_, ho⟩
  rcases List.mem_cons.1 hk with rfl | hk
  · exact h.new _ (List.mem_cons_self ..)
  · rcases hD k hk with h1 | h1
    · exact h.new k (List.mem_cons_of_mem _ h1)
    · exact Nat.le_trans h.fr.size h1
end

/-- What a put answers, and the code behind it. -/
def encAct (e : Enc) (c : Nat) (bit : Int) : Int × Enc := if rightC c ∧ (bit = 0 ∨ bit = 1) then (0, encPut e c (bit == 1)) else (1, e)
theorem encAct_n (e : Enc) (c : Nat) (bit : Int) : (encAct e c bit).2.n ≤ e.n + 1 := by
  unfold encAct
  split
  · exact (encPut_n _ _ _).2
  · simp
theorem encAct_ok {e : Enc} (he : e.Ok) (c : Nat) (bit : Int) : (encAct e c bit).2.Ok := by
  unfold encAct
  split
  · rename_i h; exact encPut_ok he h.1 _
  · exact he
theorem encAct_err (e : Enc) (c : Nat) (bit : Int) : ((encAct e c bit).1 = 0 ∧ (rightC c ∧ (bit = 0 ∨ bit = 1))) ∨ ((encAct e c bit).1 = 1 ∧ (encAct e c bit).2 = e) := by
  unfold encAct
  split
  · rename_i h; exact .inl ⟨rfl, h⟩
  · exact .inr ⟨rfl, rfl⟩

theorem put_total {X : EncSpec} {w0 : World} (W : World) (p : Nat) (D : List Nat) (e : Enc) (c : Nat) (bit : Int) (h : Live X w0 W p D e) (hc : c < 65536) (h1 : -9223372036854775808 ≤ bit) (h2 : bit ≤ 9223372036854775807) (hn : e.n ≤ 100000) :
    Calls Try.prog 57 #[pt p, .int .u16 (c : Int), .int .i64 bit] W fun r W' => r = .returned (.int .i64 (encAct e c bit).1) ∧ ∃ D', Live X w0 W' p D' (encAct e c bit).2 ∧ Fr (p :: D) W W' ∧ ∀ k ∈ D', k ∈ D ∨ W.heap.size ≤ k := by
  unfold encAct
  by_cases hg : rightC c ∧ (bit = 0 ∨ bit = 1)
  · rw [if_pos hg]
    have hb : bit = ((bit == 1).toNat : Int) := by rcases hg.2 with rfl | rfl <;> rfl
    have := X.put W p D e c (bit == 1) h.en h.ok hg.1 hn
    rw [← hb] at this
    exact this.mono fun r W' ⟨hr, D', hE, hF, hD⟩ => ⟨hr, D', h.put hE hF hD (encPut_ok h.ok hg.1 _), hF, hD⟩
  · rw [if_neg hg]
    exact (X.bad W p D e c bit h.en hc h1 h2 hg).mono fun r W' ⟨hr, hF⟩ => ⟨hr, D, h.fr0 hF, hF.mono (by simp), fun k hk => .inl hk⟩

theorem new_live {X : EncSpec} {w0 : World} (W : World) (hW : Fr [] w0 W) :
    Calls Try.prog 11 #[] W fun r W' => ∃ p D, r = .returned (pt p) ∧ Live X w0 W' p D encNew ∧ Fr [] W W' ∧ ∀ k ∈ p :: D, W.heap.size ≤ k :=
  (X.new W).mono fun r W' ⟨p, D, hr, hE, hF, hn⟩ => ⟨p, D, hr, ⟨hE, hW.trans hF (by simp), fun k hk => Nat.le_trans hW.size (hn k hk), encNew_ok⟩, hF, hn⟩

/-- The bytes told are as many as the code has. -/
theorem bytes_live {X : EncSpec} {w0 : World} (W : World) (p : Nat) (D : List Nat) (e : Enc) (h : Live X w0 W p D e) (hn : e.n ≤ 100000) :
    Calls Try.prog 16 #[pt p] W fun r W' => ∃ A c, r = .returned (.slice A e.n c) ∧ Src W' (.slice A e.n c) ((bytesOf e.n e.v).map B8) ∧ Live X w0 W' p D e ∧ Fr [] W W' :=
  (X.bytes W p D e h.en h.ok hn).mono fun r W' ⟨u, hr, hS, hF, _⟩ => by
    obtain ⟨A, c, rfl⟩ := hS.slice
    rw [bytesOf_length] at hS hr
    exact ⟨A, c, hr, hS, h.fr0 hF, hF⟩
end Go.Proofs.Ytfjlepnodmeaaaa
