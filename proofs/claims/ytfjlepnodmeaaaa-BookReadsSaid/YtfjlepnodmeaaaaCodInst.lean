/-
  The landed coder keeps the contracts that the laws ask of it. No condition.
-/
import Derived.Test.YtfjlepnodmeaaaaCod3
import Derived.Test.YtfjlepnodmeaaaaCod6
namespace Go.Proofs.Ytfjlepnodmeaaaa
open Go.RowKit

def PEn (w : World) (p : Nat) (D : List Nat) (e : Enc) : Prop := ∃ v, Pe w p v e ∧ D = v.ownBlock.toList

theorem own_mem {v : Value} {k : Nat} : k ∈ v.ownBlock.toList ↔ v.ownBlock = some k := by
  cases v.ownBlock with
  | none => simp
  | some a => simp; omega

theorem Enc.Ok.pos {e : Enc} (h : e.Ok) : 0 < e.n := by
  have h1 := h.lo
  have h2 := h.fit
  rcases Nat.eq_zero_or_pos e.n with h0 | h0
  · rw [h0] at h2; omega
  · exact h0

def encI : EncSpec where
  En := PEn
  lt := by
    rintro w p D e ⟨v, h, rfl⟩ k hk
    rcases List.mem_cons.1 hk with rfl | hk
    · exact h.1.lt
    · exact h.2.1.lt k (own_mem.1 hk)
  fr := by
    rintro w w' p D e S ⟨v, h, rfl⟩ hF hS
    refine ⟨v, ⟨h.1.fr hF (hS p (List.mem_cons_self ..)), h.2.1.fr hF (fun k hk => hS k (List.mem_cons_of_mem _ (own_mem.2 hk))), h.2.2⟩, rfl⟩
  new := by
    intro w
    refine (pnew_any w).mono ?_
    rintro r w' ⟨p, v, rfl, h, hF, hp, hv⟩
    refine ⟨p, _, rfl, ⟨v, h, rfl⟩, hF, fun k hk => ?_⟩
    rcases List.mem_cons.1 hk with rfl | hk
    · exact hp
    · exact hv k (own_mem.1 hk)
  bad := by
    rintro w p D e c bit - - - - h
    exact pput_bad w p c bit h
  put := by
    rintro w p D e c bit ⟨v, h, rfl⟩ he hc hn
    refine (pput_ok p v e c bit w h he hc (by omega)).mono ?_
    rintro r w' ⟨rfl, v', h', hF, hb⟩
    refine ⟨rfl, _, ⟨v', h', rfl⟩, hF, fun k hk => ?_⟩
    rcases hb with hb | ⟨g, hb, hg⟩
    · rw [hb] at hk; exact .inl hk
    · rw [hb] at hk
      have : k = g := by simpa using hk
      exact .inr (by omega)
  bytes := by
    rintro w p D e ⟨v, h, rfl⟩ he hn
    refine (pbytes_any w p v e h he.pos hn).mono ?_
    rintro r w' ⟨u, rfl, hS, hF, hk⟩
    exact ⟨u, rfl, hS, hF, fun k h => .inr (hk k h)⟩
  putNil := by
    rintro w c bit -
    exact pput_nil w c bit
  bytesNil := bytesNil_any

def PDe (w : World) (p : Nat) (D : List Nat) (bs : List UInt8) (d : Dec) : Prop := ∃ v, Pd w p v bs d ∧ D = v.ownBlock.toList ∧ ∀ k ∈ D, k < w.heap.size

def decI : DecSpec where
  De := PDe
  lt := by
    rintro w p D bs d ⟨v, h, rfl, hl⟩ k hk
    rcases List.mem_cons.1 hk with rfl | hk
    · exact h.1.lt
    · exact hl k hk
  fr := by
    rintro w w' p D bs d S ⟨v, h, rfl, hl⟩ hF hS
    exact ⟨v, ⟨h.1.fr hF (hS p (List.mem_cons_self ..)), h.2.1.fr hF (fun k hk => hS k (List.mem_cons_of_mem _ (own_mem.2 hk))), h.2.2⟩, rfl, fun k hk => Nat.lt_of_lt_of_le (hl k hk) hF.size⟩
  short := by
    intro w A n c h
    exact open_short w A n c h
  opens := by
    intro w A c bs hS hn hm
    refine (open_any A c bs w hS hn (by omega)).mono ?_
    rintro r w' ⟨p, v, rfl, h, hF, hp, hv, hl⟩
    refine ⟨p, _, rfl, ⟨v, h, rfl, fun k hk => hl k (own_mem.1 hk)⟩, hF, hp, fun k hk e => ?_, fun k hk => .inl (hv k (own_mem.1 hk))⟩
    have := own_mem.1 hk
    rw [e] at this
    exact h.2.2.1 this
  arg := by
    rintro w p D bs d c - - h
    exact getArg_any w p c h
  get := by
    rintro w p D bs d c ⟨v, h, rfl, hl⟩ hc hr h1 h2 - -
    by_cases hg : d.rest < d.r
    · refine (pget_any p v bs d c w h hc hg h1 h2).mono ?_
      rintro r w' (⟨bit, d', hd, he, ⟨v', h', hv⟩, hF⟩ | ⟨hd, he, hF⟩)
      · exact .inl ⟨bit, d', hd, he, ⟨v', h', by rw [hv], fun k hk => Nat.lt_of_lt_of_le (hl k hk) hF.size⟩, hF⟩
      · exact .inr ⟨hd, he, hF⟩
    · refine (pget_great p v bs d c w h hc (by omega)).mono ?_
      rintro r w' ⟨he, hF⟩
      exact .inr ⟨by unfold decGet; rw [if_neg hg], he, hF⟩
  ends := by
    rintro w p D bs d ⟨v, h, -, -⟩
    refine (end_any w p v bs d h).mono ?_
    rintro r w' ⟨rfl, rfl⟩
    exact ⟨rfl, 0, rfl⟩
  getNil := by
    rintro w c -
    exact getNil_any w c
  endNil := endNil_any

theorem nextI : NextSpec := next_any
end Go.Proofs.Ytfjlepnodmeaaaa
