/-
  The landed book keeps the contracts that the laws ask of it. No condition.
-/
import Derived.Test.YtfjlepnodmeaaaaBook4
import Derived.Test.YtfjlepnodmeaaaaBook6
namespace Go.Proofs.Ytfjlepnodmeaaaa
open Go.RowKit

theorem NibAt.post {X : EncSpec} {w : World} {b p : Nat} {D : List Nat} {t : Nat} {B : Chs} {e : Enc} {l : List Ev} {k n v : Int} {r : Ending} {w' : World} (ha : actEvs k (t : Int) n v = some l) (hr : r = .returned (.int .i64 0)) (h : NibAt X w b p D t B e w' l) : PutPost Bk X.En w b B p D e k (t : Int) n v r w' := by
  unfold PutPost
  rw [ha]
  obtain ⟨D', h1, h2, h3, h4⟩ := h.done
  exact ⟨hr, D', h1, h2, h3, h4⟩
theorem put_bad {X : EncSpec} {w : World} {b p : Nat} {D : List Nat} {B : Chs} {e : Enc} {k t n v : Int} {r : Ending} {w' : World} (ha : actEvs k t n v = none) (h : r = .returned (.int .i64 1) ∧ w' = w) : PutPost Bk X.En w b B p D e k t n v r w' := by
  unfold PutPost
  rw [ha]
  obtain ⟨rfl, rfl⟩ := h
  exact ⟨rfl, Fr.refl _ _⟩
theorem num_post {Y : DecSpec} {b y : Nat} {K : List Nat} {bs : List UInt8} {w : World} {g : Got} {r : Ending} {w' : World} (hg : ∀ e, g = .bad e → e ≠ 1) (h : NumPost Y b y K bs w g r w') : GetPost Bk Y.De w b y K bs g r w' := by
  cases g with
  | bad e =>
    obtain ⟨rfl, hF⟩ := h
    exact ⟨rfl, hF, fun he => absurd he (hg e rfl)⟩
  | ok v B d =>
    obtain ⟨rfl, hE, hF⟩ := h
    exact ⟨rfl, hE.bk, hE.de, hF⟩
theorem get_bad {Y : DecSpec} {b y : Nat} {K : List Nat} {bs : List UInt8} {w : World} {g : Got} {r : Ending} {w' : World} (hg : g = .bad 1) (h : r = .returned (.tuple #[.int .i64 0, .int .i64 1]) ∧ w' = w) : GetPost Bk Y.De w b y K bs g r w' := by
  subst hg
  obtain ⟨rfl, rfl⟩ := h
  exact ⟨rfl, Fr.refl _ _, fun _ => Fr.refl _ _⟩
theorem getNum_bad {bs : List UInt8} {t : Nat} {B : Chs} {d : Dec} {e : Int} (h : getNum bs t B d = .bad e) : e ≠ 1 := by
  unfold getNum at h
  split at h
  · injection h with h; omega
  · split at h
    · injection h with h; omega
    · split at h
      · injection h with h; omega
      · cases h
theorem getSgn_bad {bs : List UInt8} {t : Nat} {B : Chs} {d : Dec} {e : Int} (h : getSgn bs t B d = .bad e) : e ≠ 1 := by
  unfold getSgn at h
  split at h
  · rename_i e' he
    injection h with h
    subst h
    exact getNum_bad he
  · unfold getSign at h
    split at h
    · cases h
    · split at h
      · injection h with h; omega
      · cases h
theorem getOne_bad {bs : List UInt8} {t n : Nat} {B : Chs} {d : Dec} {e : Int} (h : getOne bs t n B d = .bad e) : e ≠ 1 := by
  unfold getOne at h
  split at h
  · injection h with h; omega
  · split at h
    · injection h with h; omega
    · cases h

def bookI : BookSpec encI decI where
  Bo := Bk
  lt := fun h => h.lt
  fr := fun h hf hs => h.fr hf hs
  new := bnew_any
  put := by
    intro w b B p D e t v hb hE hs hB he hn ht hv
    by_cases h1 : t < 0 ∨ 15 < t
    · have ha : actEvs 1 t 0 v = none := by unfold actEvs; rw [if_pos h1]
      exact (bPut_bad t v _ _ w (by omega)).mono fun r w' h => put_bad ha h
    · obtain ⟨T, rfl⟩ : ∃ T : Nat, t = (T : Int) := ⟨t.toNat, by omega⟩
      by_cases h2 : 0 ≤ v ∧ v ≤ 1048576
      · obtain ⟨V, rfl⟩ : ∃ V : Nat, v = (V : Int) := ⟨v.toNat, by omega⟩
        have ha : actEvs 1 (T : Int) 0 (V : Int) = some (numEvs V) := by
          unfold actEvs
          rw [if_neg h1, if_pos rfl, if_pos h2]
          rfl
        exact (bPut_ok nextI encI w b p T V D B e hb hE hs hB he (by omega) (by omega) (by omega)).mono fun r w' h => h.2.post ha h.1
      · have ha : actEvs 1 (T : Int) 0 v = none := by
          unfold actEvs
          rw [if_neg h1, if_pos rfl, if_neg h2]
        exact (bPut_bad T v _ _ w (by omega)).mono fun r w' h => put_bad ha h
  putS := by
    intro w b B p D e t v hb hE hs hB he hn ht hv
    by_cases h1 : t < 0 ∨ 15 < t
    · have ha : actEvs 2 t 0 v = none := by unfold actEvs; rw [if_pos h1]
      exact (bPutS_bad t v _ _ w hv (by omega)).mono fun r w' h => put_bad ha h
    · obtain ⟨T, rfl⟩ : ∃ T : Nat, t = (T : Int) := ⟨t.toNat, by omega⟩
      by_cases h2 : -1048576 ≤ v ∧ v ≤ 1048576
      · have ha : actEvs 2 (T : Int) 0 v = some (sgnEvs v) := by
          unfold actEvs
          rw [if_neg h1, if_neg (by decide), if_pos rfl, if_pos h2]
        exact (bPutS_ok nextI encI w b p T v D B e hb hE hs hB he (by omega) (by omega) h2).mono fun r w' h => h.2.post ha h.1
      · have ha : actEvs 2 (T : Int) 0 v = none := by
          unfold actEvs
          rw [if_neg h1, if_neg (by decide), if_pos rfl, if_neg h2]
        exact (bPutS_bad T v _ _ w hv (by omega)).mono fun r w' h => put_bad ha h
  putO := by
    intro w b B p D e t n v hb hE hs hB he hn ht hnn hv
    by_cases h1 : t < 0 ∨ 15 < t
    · have ha : actEvs 3 t n v = none := by unfold actEvs; rw [if_pos h1]
      exact (bPutO_bad t n v _ _ w (by omega)).mono fun r w' h => put_bad ha h
    · obtain ⟨T, rfl⟩ : ∃ T : Nat, t = (T : Int) := ⟨t.toNat, by omega⟩
      by_cases h2 : 1 ≤ n ∧ n ≤ 16 ∧ 0 ≤ v ∧ v < n
      · obtain ⟨V, rfl⟩ : ∃ V : Nat, v = (V : Int) := ⟨v.toNat, by omega⟩
        obtain ⟨M, rfl⟩ : ∃ M : Nat, n = (M : Int) := ⟨n.toNat, by omega⟩
        have ha : actEvs 3 (T : Int) (M : Int) (V : Int) = some (oneEvs M V) := by
          unfold actEvs
          rw [if_neg h1, if_neg (by decide), if_neg (by decide), if_pos h2]
          rfl
        exact (bPutO_ok nextI encI w b p T M V D B e hb hE hs hB he (by omega) (by omega) (by omega) (by omega) (by omega)).mono fun r w' h => h.2.post ha h.1
      · have ha : actEvs 3 (T : Int) n v = none := by
          unfold actEvs
          rw [if_neg h1, if_neg (by decide), if_neg (by decide), if_neg h2]
        exact (bPutO_bad T n v _ _ w (by omega)).mono fun r w' h => put_bad ha h
  get := by
    intro w b B y K bs d t hb hD hs hB h1 h2 h3 h4 hn ht
    by_cases h0 : t < 0 ∨ 15 < t
    · exact (bGet_bad t _ _ w (by omega)).mono fun r w' h => get_bad (by unfold getAct; rw [if_pos h0]) h
    · obtain ⟨T, rfl⟩ : ∃ T : Nat, t = (T : Int) := ⟨t.toNat, by omega⟩
      have ha : getAct bs 1 (T : Int) 0 B d = getNum bs T B d := by unfold getAct; rw [if_neg h0, if_pos rfl]; rfl
      rw [ha]
      exact (bGet_any nextI decI w b y T K bs d B ⟨hb, hD, hs, hB, h2, h3, h4, h1⟩ hn (by omega)).mono fun r w' h => num_post (fun e he => getNum_bad he) h
  getS := by
    intro w b B y K bs d t hb hD hs hB h1 h2 h3 h4 hn ht
    by_cases h0 : t < 0 ∨ 15 < t
    · exact (bGetS_bad t _ _ w (by omega)).mono fun r w' h => get_bad (by unfold getAct; rw [if_pos h0]) h
    · obtain ⟨T, rfl⟩ : ∃ T : Nat, t = (T : Int) := ⟨t.toNat, by omega⟩
      have ha : getAct bs 2 (T : Int) 0 B d = getSgn bs T B d := by unfold getAct; rw [if_neg h0, if_neg (by decide), if_pos rfl]; rfl
      rw [ha]
      exact (bGetS_any nextI decI w b y T K bs d B ⟨hb, hD, hs, hB, h2, h3, h4, h1⟩ hn (by omega)).mono fun r w' h => num_post (fun e he => getSgn_bad he) h
  getO := by
    intro w b B y K bs d t n hb hD hs hB h1 h2 h3 h4 hn ht hnn
    by_cases h0 : t < 0 ∨ 15 < t
    · exact (bGetO_bad t n _ _ w (by omega)).mono fun r w' h => get_bad (by unfold getAct; rw [if_pos h0]) h
    · obtain ⟨T, rfl⟩ : ∃ T : Nat, t = (T : Int) := ⟨t.toNat, by omega⟩
      by_cases h5 : n < 1 ∨ 16 < n
      · exact (bGetO_bad T n _ _ w (by omega)).mono fun r w' h => get_bad (by unfold getAct; rw [if_neg h0, if_neg (by decide), if_neg (by decide), if_pos h5]) h
      · obtain ⟨M, rfl⟩ : ∃ M : Nat, n = (M : Int) := ⟨n.toNat, by omega⟩
        have ha : getAct bs 3 (T : Int) (M : Int) B d = getOne bs T M B d := by unfold getAct; rw [if_neg h0, if_neg (by decide), if_neg (by decide), if_neg h5]; rfl
        rw [ha]
        exact (bGetO_any nextI decI w b y T M K bs d B ⟨hb, hD, hs, hB, h2, h3, h4, h1⟩ hn (by omega) (by omega) (by omega)).mono fun r w' h => num_post (fun e he => getOne_bad he) h
  same := bsame_any
  copy := bcopy_any
  putNilB := fun w p D e t v _ _ _ => (bPut_bad t v none _ w (.inl rfl)).mono fun r w' h => ⟨h.1, by rw [h.2]; exact Fr.refl _ _⟩
  putNilX := fun w b B t v _ _ _ => (bPut_bad t v _ none w (.inr (.inl rfl))).mono fun r w' h => ⟨h.1, by rw [h.2]; exact Fr.refl _ _⟩
  putSNilB := fun w p D e t v _ _ hv => (bPutS_bad t v none _ w hv (.inl rfl)).mono fun r w' h => ⟨h.1, by rw [h.2]; exact Fr.refl _ _⟩
  putSNilX := fun w b B t v _ _ hv => (bPutS_bad t v _ none w hv (.inr (.inl rfl))).mono fun r w' h => ⟨h.1, by rw [h.2]; exact Fr.refl _ _⟩
  putONilB := fun w p D e t n v _ _ _ _ => (bPutO_bad t n v none _ w (.inl rfl)).mono fun r w' h => ⟨h.1, by rw [h.2]; exact Fr.refl _ _⟩
  putONilX := fun w b B t n v _ _ _ _ => (bPutO_bad t n v _ none w (.inr (.inl rfl))).mono fun r w' h => ⟨h.1, by rw [h.2]; exact Fr.refl _ _⟩
  getNilB := fun w t _ => (bGet_bad t none none w (.inl rfl)).mono fun r w' h => ⟨h.1, by rw [h.2]; exact Fr.refl _ _⟩
  getNilX := fun w b B t _ _ => (bGet_bad t _ none w (.inr (.inl rfl))).mono fun r w' h => ⟨h.1, by rw [h.2]; exact Fr.refl _ _⟩
  getSNilB := fun w t _ => (bGetS_bad t none none w (.inl rfl)).mono fun r w' h => ⟨h.1, by rw [h.2]; exact Fr.refl _ _⟩
  getSNilX := fun w b B t _ _ => (bGetS_bad t _ none w (.inr (.inl rfl))).mono fun r w' h => ⟨h.1, by rw [h.2]; exact Fr.refl _ _⟩
  getONilB := fun w t n _ _ => (bGetO_bad t n none none w (.inl rfl)).mono fun r w' h => ⟨h.1, by rw [h.2]; exact Fr.refl _ _⟩
  getONilX := fun w b B t n _ _ _ => (bGetO_bad t n _ none w (.inr (.inl rfl))).mono fun r w' h => ⟨h.1, by rw [h.2]; exact Fr.refl _ _⟩
  sameNN := bsameNN_any
  sameNB := fun w b _ _ => bsameNB_any w b
  copyNil := bcopyNil_any
end Go.Proofs.Ytfjlepnodmeaaaa
