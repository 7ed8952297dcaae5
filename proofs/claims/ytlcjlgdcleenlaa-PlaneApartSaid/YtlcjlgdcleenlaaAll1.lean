/-
  What several laws' proofs lean on, part 1; each part says its conditions below.
-/
import Derived.Test.YtlcjlgdcleenlaaRows
import Derived.WalkKit
import Derived.Handy
import Derived.Lib.Hide
import Derived.Deep.Draws
import Derived.Laws.CopyOwn
import Derived.StillTailTactics
import Derived.Deep.QuietTactic
import Derived.BigQuiet
import Derived.Deep.DeepCutAuto
import Derived.ProofKit
import Derived.Deep.Slices
import Derived.Deep.Fields
import Derived.Deep.RegionHeld3
import Derived.Laws.Rows
import Derived.Laws.ResultCell
import Derived.Laws.Strings
/-
  Planes and frames of samples; what the functions of layer 6 make of them. Plain: no program text.
-/
namespace Go.Proofs.Ytlcjlgdcleenlaa

def sideOk (n : Int) : Bool := decide (1 ≤ n) && decide (n ≤ 4096)
/-- A plane: its sides, its samples. -/
structure Pl where
  w : Int
  h : Int
  pix : List UInt8
deriving DecidableEq
def Pl.ok (P : Pl) : Bool := sideOk P.w && sideOk P.h && decide ((P.pix.length : Int) = P.w * P.h)
def plNone : Pl := ⟨0, 0, []⟩
def nearI (x n : Int) : Int := if x < 0 then 0 else if n ≤ x then n - 1 else x
def Pl.smp (P : Pl) (x y : Int) : UInt8 := P.pix.getD (nearI y P.h * P.w + nearI x P.w).toNat 0
def Pl.at_ (P : Pl) (x y : Int) : UInt8 := if P.ok then P.smp x y else 0
def spanOk (n : Int) : Bool := decide (1 ≤ n) && decide (n ≤ 64)
/-- The k-th place of a square of n, from (x, y) on. -/
def Pl.sq (P : Pl) (x y : Int) (n k : Nat) : UInt8 := P.smp (x + ((k % n : Nat) : Int)) (y + ((k / n : Nat) : Int))
def Pl.block (P : Pl) (x y n : Int) : List UInt8 := if P.ok && spanOk n then (List.range (n.toNat * n.toNat)).map (P.sq x y n.toNat) else []
def plNew (w h : Int) (v : UInt8) : Pl × Int := if sideOk w && sideOk h then (⟨w, h, List.replicate (w.toNat * h.toNat) v⟩, 0) else (plNone, 61)
/-- A plane's sample by its column and row. -/
def Pl.pt (P : Pl) (a c : Nat) : UInt8 := P.pix.getD (c * P.w.toNat + a) 0
/-- The k-th sample once m samples of a square are laid. -/
def Pl.laid (P : Pl) (x y : Int) (n : Nat) (b : List UInt8) (m k : Nat) : UInt8 :=
  let a : Int := ((k % P.w.toNat : Nat) : Int)
  let c : Int := ((k / P.w.toNat : Nat) : Int)
  if x ≤ a ∧ a < x + n ∧ y ≤ c ∧ c < y + n ∧ ((c - y) * n + (a - x)).toNat < m then b.getD ((c - y) * n + (a - x)).toNat 0 else P.pix.getD k 0
def Pl.lays (P : Pl) (x y : Int) (n : Nat) (b : List UInt8) (m : Nat) : List UInt8 := (List.range P.pix.length).map (P.laid x y n b m)
def Pl.lay (P : Pl) (x y n : Int) (b : List UInt8) : Pl × Int :=
  if !(spanOk n && decide ((b.length : Int) = n * n)) then (plNone, 1)
  else if !P.ok then (plNone, 61)
  else (⟨P.w, P.h, P.lays x y n.toNat b (n.toNat * n.toNat)⟩, 0)
/-- Half: a sample of four. -/
def Pl.fourTo (P : Pl) (x y : Nat) : Nat → Nat
  | 0 => 2
  | k + 1 => P.fourTo x y k + (P.smp (2 * (x : Int) + ((k % 2 : Nat) : Int)) (2 * (y : Int) + ((k / 2 : Nat) : Int))).toNat
def Pl.four (P : Pl) (x y : Nat) : Nat := P.fourTo x y 4
def Pl.halves (P : Pl) (w k : Nat) : UInt8 := UInt8.ofNat (P.four (k % w) (k / w) / 4)
def Pl.even (P : Pl) : Bool := P.ok && decide (P.w % 2 = 0) && decide (P.h % 2 = 0)
def Pl.half (P : Pl) : Pl × Int :=
  if P.even then (⟨P.w / 2, P.h / 2, (List.range ((P.w / 2).toNat * (P.h / 2).toNat)).map (P.halves (P.w / 2).toNat)⟩, 0) else (plNone, 61)
def gap (a b : UInt8) : Nat := ((a.toNat : Int) - (b.toNat : Int)).natAbs
def gaps : List UInt8 → List UInt8 → Nat
  | a :: l, b :: m => gap a b + gaps l m
  | _, _ => 0
def Pl.far (P Q : Pl) : Int × Int := if P.ok && Q.ok && decide (P.w = Q.w) && decide (P.h = Q.h) then ((gaps P.pix Q.pix : Int), 0) else (0, 61)
/-- A frame: three planes. -/
structure Frm where
  y : Pl
  u : Pl
  v : Pl
deriving DecidableEq
def frNone : Frm := ⟨plNone, plNone, plNone⟩
def Frm.whole (F : Frm) : Bool :=
  F.y.ok && F.u.ok && F.v.ok && decide (F.y.w % 16 = 0) && decide (F.y.h % 16 = 0) && decide (F.u.w = F.y.w / 2) && decide (F.u.h = F.y.h / 2) && decide (F.v.w = F.u.w) && decide (F.v.h = F.u.h)
def frBlank (w h : Int) (v : UInt8) : Frm × Int :=
  if decide (w % 16 = 0) && decide (h % 16 = 0) && sideOk w && sideOk h then (⟨(plNew w h v).1, (plNew (w / 2) (h / 2) v).1, (plNew (w / 2) (h / 2) v).1⟩, 0) else (frNone, 61)
def Frm.halved (F : Frm) : Frm := ⟨F.y.half.1, F.u.half.1, F.v.half.1⟩
def Frm.down (F : Frm) : Frm × Int := if F.whole && F.halved.whole then (F.halved, 0) else (frNone, 61)

theorem sideOk_iff {n : Int} : sideOk n = true ↔ 1 ≤ n ∧ n ≤ 4096 := by simp [sideOk]
theorem spanOk_iff {n : Int} : spanOk n = true ↔ 1 ≤ n ∧ n ≤ 64 := by simp [spanOk]
theorem Pl.ok_iff {P : Pl} : P.ok = true ↔ (1 ≤ P.w ∧ P.w ≤ 4096) ∧ (1 ≤ P.h ∧ P.h ≤ 4096) ∧ (P.pix.length : Int) = P.w * P.h := by
  simp [Pl.ok, sideOk_iff]
  constructor
  · rintro ⟨⟨h1, h2⟩, h3⟩; exact ⟨h1, h2, h3⟩
  · rintro ⟨h1, h2, h3⟩; exact ⟨⟨h1, h2⟩, h3⟩
theorem nearI_range (x : Int) {n : Int} (h : 1 ≤ n) : 0 ≤ nearI x n ∧ nearI x n < n := by
  unfold nearI
  split
  · omega
  · split <;> omega
/-- A right plane by natural numbers. -/
theorem Pl.ok_nat {P : Pl} (h : P.ok = true) : ∃ w h' : Nat, P.w = (w : Int) ∧ P.h = (h' : Int) ∧ 1 ≤ w ∧ w ≤ 4096 ∧ 1 ≤ h' ∧ h' ≤ 4096 ∧ P.pix.length = w * h' := by
  obtain ⟨⟨h1, h2⟩, ⟨h3, h4⟩, h5⟩ := Pl.ok_iff.1 h
  refine ⟨P.w.toNat, P.h.toNat, by omega, by omega, by omega, by omega, by omega, by omega, ?_⟩
  have e1 : (P.w.toNat : Int) = P.w := by omega
  have e2 : (P.h.toNat : Int) = P.h := by omega
  have : ((P.w.toNat * P.h.toNat : Nat) : Int) = P.w * P.h := by rw [Int.natCast_mul, e1, e2]
  omega
theorem cell_lt {a c w h : Nat} (ha : a < w) (hc : c < h) : c * w + a < w * h := by
  have : (c + 1) * w ≤ h * w := Nat.mul_le_mul_right _ hc
  rw [Nat.add_mul] at this
  rw [Nat.mul_comm w h]
  omega
theorem near_idx {P : Pl} (h : P.ok = true) (x y : Int) : ∃ k : Nat, nearI y P.h * P.w + nearI x P.w = (k : Int) ∧ k < P.pix.length := by
  obtain ⟨w, h', e1, e2, w1, w2, h1, h2, hl⟩ := P.ok_nat h
  rw [e1, e2]
  obtain ⟨n1, n2⟩ := nearI_range x (n := (w : Int)) (by omega)
  obtain ⟨n3, n4⟩ := nearI_range y (n := (h' : Int)) (by omega)
  obtain ⟨a, ha⟩ : ∃ a : Nat, nearI x (w : Int) = (a : Int) := ⟨(nearI x (w : Int)).toNat, by omega⟩
  obtain ⟨c, hc⟩ : ∃ c : Nat, nearI y (h' : Int) = (c : Int) := ⟨(nearI y (h' : Int)).toNat, by omega⟩
  rw [ha, hc]
  refine ⟨c * w + a, by simp, ?_⟩
  rw [hl]
  exact cell_lt (by omega) (by omega)
theorem nearI_in {x n : Int} (h1 : 0 ≤ x) (h2 : x < n) : nearI x n = x := by unfold nearI; rw [if_neg (by omega), if_neg (by omega)]
/-- Far beyond the right edge nothing changes. -/
def shiftI (x i : Int) : Int := if 4611686018427387904 < x then 4611686018427387904 else x + i
theorem near_shift {x i n : Int} (hi : 0 ≤ i) (hn : n ≤ 4096) : nearI (shiftI x i) n = nearI (x + i) n := by
  unfold shiftI
  split
  · unfold nearI
    rw [if_neg (by omega), if_pos (by omega), if_neg (by omega), if_pos (by omega)]
  · rfl
theorem smp_shift {P : Pl} (h : P.ok = true) {x y i j : Int} (hi : 0 ≤ i) (hj : 0 ≤ j) : P.smp (shiftI x i) (shiftI y j) = P.smp (x + i) (y + j) := by
  obtain ⟨⟨h1, h2⟩, ⟨h3, h4⟩, h5⟩ := Pl.ok_iff.1 h
  unfold Pl.smp
  rw [near_shift hi h2, near_shift hj h4]

theorem gaps_snoc : ∀ (a b : List UInt8) (i : Nat) {u v : UInt8}, a[i]? = some u → b[i]? = some v → gaps (a.take (i + 1)) (b.take (i + 1)) = gaps (a.take i) (b.take i) + gap u v
  | x :: l, y :: m, 0, u, v, h1, h2 => by
    simp at h1 h2
    subst h1 h2
    simp [gaps]
  | x :: l, y :: m, i + 1, u, v, h1, h2 => by
    have := gaps_snoc l m i (by simpa using h1) (by simpa using h2)
    simp only [List.take_succ_cons, gaps]
    rw [this]
    omega
  | [], _, i, u, v, h1, _ => by simp at h1
  | x :: l, [], i, u, v, _, h2 => by simp at h2
theorem gap_le (u v : UInt8) : gap u v ≤ 255 := by
  have := u.toNat_lt
  have := v.toNat_lt
  unfold gap
  omega
theorem gaps_le : ∀ (a b : List UInt8), gaps a b ≤ 255 * a.length
  | x :: l, y :: m => by
    have h1 := gaps_le l m
    have h2 := gap_le x y
    simp only [gaps, List.length_cons]
    omega
  | [], _ => by simp [gaps]
  | x :: l, [] => by simp [gaps]

theorem fourTo_le (P : Pl) (x y : Nat) : ∀ k, P.fourTo x y k ≤ 2 + 255 * k
  | 0 => by simp [Pl.fourTo]
  | k + 1 => by
    have h1 := fourTo_le P x y k
    have h2 := (P.smp (2 * (x : Int) + ((k % 2 : Nat) : Int)) (2 * (y : Int) + ((k / 2 : Nat) : Int))).toNat_lt
    simp only [Pl.fourTo]
    omega

theorem shift_in {x i W : Int} (hW : W ≤ 4096) (hi : 0 ≤ i) : (0 ≤ shiftI x i ∧ shiftI x i < W) ↔ (0 ≤ x + i ∧ x + i < W) := by
  unfold shiftI
  split <;> omega
theorem shift_same {x i W : Int} (hW : W ≤ 4096) (h : shiftI x i < W) : shiftI x i = x + i := by
  unfold shiftI at *
  split
  · rename_i h1; rw [if_pos h1] at h; omega
  · rfl

/-! Laying. -/
theorem lays_length (P : Pl) (x y : Int) (n : Nat) (b : List UInt8) (m : Nat) : (P.lays x y n b m).length = P.pix.length := by simp [Pl.lays]
theorem lays_get (P : Pl) (x y : Int) (n : Nat) (b : List UInt8) (m : Nat) {k : Nat} (hk : k < P.pix.length) : (P.lays x y n b m)[k]? = some (P.laid x y n b m k) := by simp [Pl.lays, hk]
theorem lays_zero (P : Pl) (x y : Int) (n : Nat) (b : List UInt8) : P.lays x y n b 0 = P.pix := by
  apply List.ext_getElem?
  intro k
  by_cases hk : k < P.pix.length
  · rw [lays_get P x y n b 0 hk]
    unfold Pl.laid
    simp only [Nat.not_lt_zero, and_false, if_false]
    rw [List.getD_eq_getElem?_getD, List.getElem?_eq_getElem hk]; rfl
  · rw [List.getElem?_eq_none (by rw [lays_length]; omega), List.getElem?_eq_none (by omega)]
theorem pair_unique {n i j i' j' : Nat} (hi : i < n) (hi' : i' < n) (h : j' * n + i' = j * n + i) : i' = i ∧ j' = j := by
  have h1 : (j' * n + i') % n = (j * n + i) % n := by rw [h]
  rw [Nat.mul_comm j', Nat.mul_comm j, Nat.mul_add_mod, Nat.mul_add_mod, Nat.mod_eq_of_lt hi', Nat.mod_eq_of_lt hi] at h1
  subst h1
  have h2 : j' * n = j * n := by omega
  exact ⟨rfl, Nat.eq_of_mul_eq_mul_right (by omega) h2⟩
/-- An index within the square, by natural numbers. -/
theorem sq_idx {x y a c : Int} {n : Nat} (h : x ≤ a ∧ a < x + n ∧ y ≤ c ∧ c < y + n) : ∃ i j : Nat, i < n ∧ j < n ∧ a = x + i ∧ c = y + j ∧ ((c - y) * n + (a - x)).toNat = j * n + i := by
  refine ⟨(a - x).toNat, (c - y).toNat, by omega, by omega, by omega, by omega, ?_⟩
  have e1 : a - x = (((a - x).toNat : Nat) : Int) := by omega
  have e2 : c - y = (((c - y).toNat : Nat) : Int) := by omega
  generalize (a - x).toNat = i at e1 ⊢
  generalize (c - y).toNat = j at e2 ⊢
  rw [e1, e2]
  have : (j : Int) * (n : Int) + (i : Int) = ((j * n + i : Nat) : Int) := by simp
  rw [this]
  omega
theorem lays_step {P : Pl} (hok : P.ok = true) {x y : Int} {n i j : Nat} (hi : i < n) (b : List UInt8) :
    P.lays x y n b (j * n + i + 1) = if 0 ≤ x + i ∧ x + i < P.w ∧ 0 ≤ y + j ∧ y + j < P.h ∧ j < n then (P.lays x y n b (j * n + i)).set ((y + j).toNat * P.w.toNat + (x + i).toNat) (b.getD (j * n + i) 0) else P.lays x y n b (j * n + i) := by
  obtain ⟨w, h', e1, e2, w1, w2, h1, h2, hl⟩ := P.ok_nat hok
  have ew : P.w.toNat = w := by omega
  apply List.ext_getElem?
  intro k
  by_cases hk : k < P.pix.length
  · rw [lays_get P x y n b _ hk]
    have hkm : k % w < w := Nat.mod_lt _ (by omega)
    have hkd : k / w < h' := by
      rw [Nat.div_lt_iff_lt_mul (by omega), Nat.mul_comm, ← hl]; exact hk
    have hkk := Nat.div_add_mod k w
    have hmod : ∀ a c, a < w → c * w + a = k → k % w = a ∧ k / w = c := by
      intro a c ha he
      subst he
      rw [Nat.mul_comm c w, Nat.mul_add_mod, Nat.mod_eq_of_lt ha, Nat.mul_add_div (by omega), Nat.div_eq_of_lt ha]
      exact ⟨rfl, rfl⟩
    have hcond : ∀ m, P.laid x y n b m k = if x ≤ ((k % w : Nat) : Int) ∧ ((k % w : Nat) : Int) < x + n ∧ y ≤ ((k / w : Nat) : Int) ∧ ((k / w : Nat) : Int) < y + n ∧ ((((k / w : Nat) : Int) - y) * n + (((k % w : Nat) : Int) - x)).toNat < m then b.getD ((((k / w : Nat) : Int) - y) * n + (((k % w : Nat) : Int) - x)).toNat 0 else P.pix.getD k 0 := by
      intro m
      unfold Pl.laid
      rw [ew]
    rw [ew, e1, e2]
    generalize k % w = a at hkm hkk hmod hcond
    generalize k / w = c at hkd hkk hmod hcond
    have hset : ∀ (l : List UInt8) (z : UInt8), (0 ≤ x + (i : Int) ∧ x + (i : Int) < (w : Int) ∧ 0 ≤ y + (j : Int) ∧ y + (j : Int) < (h' : Int)) → ((y + (j : Int)).toNat * w + (x + (i : Int)).toNat = k ∧ (a : Int) = x + i ∧ (c : Int) = y + j) ∨ ((l.set ((y + (j : Int)).toNat * w + (x + (i : Int)).toNat) z)[k]? = l[k]? ∧ ¬ ((a : Int) = x + i ∧ (c : Int) = y + j)) := by
      intro l z hc
      by_cases he : (y + (j : Int)).toNat * w + (x + (i : Int)).toNat = k
      · obtain ⟨q1, q2⟩ := hmod _ _ (by omega) he
        exact .inl ⟨he, by omega, by omega⟩
      · refine .inr ⟨List.getElem?_set_ne he, fun ⟨q1, q2⟩ => he ?_⟩
        rw [← q1, ← q2, Int.toNat_natCast, Int.toNat_natCast, Nat.mul_comm]
        exact hkk
    by_cases hin : x ≤ (a : Int) ∧ (a : Int) < x + n ∧ y ≤ (c : Int) ∧ (c : Int) < y + n
    · obtain ⟨i', j', hi', hj', ha, hc, hidx⟩ := sq_idx hin
      have hthen : ∀ m, j' * n + i' < m → P.laid x y n b m k = b.getD (j' * n + i') 0 := by
        intro m hm
        rw [hcond, if_pos ⟨hin.1, hin.2.1, hin.2.2.1, hin.2.2.2, by rw [hidx]; exact hm⟩, hidx]
      have helse : ∀ m, ¬ j' * n + i' < m → P.laid x y n b m k = P.pix.getD k 0 := by
        intro m hm
        rw [hcond, if_neg (fun h => hm (by have := h.2.2.2.2; rw [hidx] at this; exact this))]
      by_cases heq : j' * n + i' = j * n + i
      · obtain ⟨hii, hjj⟩ := pair_unique hi hi' heq
        subst hii hjj
        rw [if_pos (by omega), hthen _ (by omega)]
        rcases hset (P.lays x y n b (j' * n + i')) (b.getD (j' * n + i') 0) (by omega) with ⟨q1, -, -⟩ | ⟨-, q2⟩
        · rw [q1, List.getElem?_set_self (by rw [lays_length]; exact hk)]
        · exact absurd ⟨ha, hc⟩ q2
      · have hsame : P.laid x y n b (j * n + i + 1) k = P.laid x y n b (j * n + i) k := by
          by_cases hlt : j' * n + i' < j * n + i
          · rw [hthen _ hlt, hthen _ (by omega)]
          · rw [helse _ hlt, helse _ (by omega)]
        rw [hsame]
        split
        · rename_i hcnd
          rcases hset (P.lays x y n b (j * n + i)) (b.getD (j * n + i) 0) ⟨hcnd.1, hcnd.2.1, hcnd.2.2.1, hcnd.2.2.2.1⟩ with ⟨-, q2, q3⟩ | ⟨q1, -⟩
          · exact absurd (show j' * n + i' = j * n + i by rw [show i' = i by omega, show j' = j by omega]) heq
          · rw [q1, lays_get P x y n b _ hk]
        · rw [lays_get P x y n b _ hk]
    · have hnone : ∀ m, P.laid x y n b m k = P.pix.getD k 0 := by
        intro m
        rw [hcond, if_neg (fun h => hin ⟨h.1, h.2.1, h.2.2.1, h.2.2.2.1⟩)]
      rw [hnone, ← hnone (j * n + i)]
      split
      · rename_i hcnd
        rcases hset (P.lays x y n b (j * n + i)) (b.getD (j * n + i) 0) ⟨hcnd.1, hcnd.2.1, hcnd.2.2.1, hcnd.2.2.2.1⟩ with ⟨-, q2, q3⟩ | ⟨q1, -⟩
        · exact absurd (by omega) hin
        · rw [q1, lays_get P x y n b _ hk]
      · rw [lays_get P x y n b _ hk]
  · have g : ∀ l : List UInt8, l.length = P.pix.length → l[k]? = none := fun l h => List.getElem?_eq_none (by omega)
    rw [g _ (lays_length ..)]
    split
    · rw [g _ (by rw [List.length_set, lays_length])]
    · rw [g _ (lays_length ..)]
end Go.Proofs.Ytlcjlgdcleenlaa

/-
  Contracts of the small functions of package bits (isWidth, toWhole, ones); conditions: the numbers lie in the ranges that are named.
-/
namespace Go.Proofs.Ytlcjlgdcleenlaa
open Go.RowKit

theorem ones_num (k : Nat) (h : k ≤ 63) : IntKind.u64.wrap (IntKind.u64.wrap (2 ^ k) - 1) = ((2 ^ k - 1 : Nat) : Int) := by
  have h1 : 2 ^ k ≤ 2 ^ 63 := Nat.pow_le_pow_right (by omega) h
  have h2 : 1 ≤ 2 ^ k := Nat.one_le_two_pow
  have e : ((2 : Int) ^ k) = ((2 ^ k : Nat) : Int) := by simp
  rw [e, IntKind.wrap_u64, IntKind.wrap_u64]
  omega

end Go.Proofs.Ytlcjlgdcleenlaa

/-
  Plain facts on bits, bytes and how bits are packed into bytes. No program text here.
-/
namespace Go.Proofs.Ytlcjlgdcleenlaa

/-- The lowest n bits of v, the highest one first. -/
def digits (v : Nat) : Nat → List Bool
  | 0 => []
  | n + 1 => v.testBit n :: digits v n

def number (l : List Bool) : Nat := l.foldl (fun a b => 2 * a + b.toNat) 0

/-- Bit j of bytes, counted from the first byte's highest one on. -/
def bitAt (bs : List UInt8) (j : Nat) : Bool := (bs.getD (j / 8) 0).toNat.testBit (7 - j % 8)

/-- bs are the bits l, filled up with 0 to whole bytes. -/
def PackOf (bs : List UInt8) (l : List Bool) : Prop := bs.length = (l.length + 7) / 8 ∧ ∀ j, bitAt bs j = l.getD j false

@[simp] theorem digits_length (v n : Nat) : (digits v n).length = n := by
  induction n with
  | zero => rfl
  | succ n ih => simp [digits, ih]

theorem digits_getD (v : Nat) : ∀ n j, (digits v n).getD j false = (decide (j < n) && v.testBit (n - 1 - j))
  | 0, j => by simp [digits]
  | n + 1, 0 => by simp [digits]
  | n + 1, j + 1 => by
    have := digits_getD v n j
    simp only [digits, List.getD_cons_succ, this]
    have h : n - 1 - j = n + 1 - 1 - (j + 1) := by omega
    rw [h]; simp

theorem ext_getD {l m : List Bool} (hl : l.length = m.length) (h : ∀ j, l.getD j false = m.getD j false) : l = m := by
  apply List.ext_getElem hl
  intro i h1 h2
  have := h i
  simpa [List.getD_eq_getElem?_getD, h1, h2] using this

theorem getD_append' (l m : List Bool) (j : Nat) : (l ++ m).getD j false = if j < l.length then l.getD j false else m.getD (j - l.length) false := by
  simp only [List.getD_eq_getElem?_getD, List.getElem?_append]
  split <;> rfl

theorem digits_add (v n k : Nat) : digits v (n + k) = digits (v >>> n) k ++ digits v n := by
  apply ext_getD (by simp; omega)
  intro j
  rw [getD_append', digits_length, digits_getD, digits_getD, digits_getD]
  by_cases h : j < k
  · simp only [h, if_true, Nat.testBit_shiftRight]
    rw [show n + (k - 1 - j) = n + k - 1 - j by omega]
    simp [show j < n + k by omega]
  · simp only [h, if_false]
    rw [show n - 1 - (j - k) = n + k - 1 - j by omega]
    congr 1
    apply decide_eq_decide.2; omega

theorem digits_more (a n m k : Nat) (h : m + k ≤ n) : digits (a >>> m) (n - m) = digits (a >>> (m + k)) (n - (m + k)) ++ digits (a >>> m) k := by
  rw [show n - m = k + (n - (m + k)) by omega, digits_add, Nat.shiftRight_add]

theorem number_append (l : List Bool) (b : Bool) : number (l ++ [b]) = 2 * number l + b.toNat := by
  simp [number]

theorem foldl_number (l : List Bool) : ∀ a, l.foldl (fun a b => 2 * a + b.toNat) a = a * 2 ^ l.length + number l := by
  induction l with
  | nil => intro a; simp [number]
  | cons b l ih =>
    intro a
    simp only [List.foldl_cons, number, List.length_cons]
    rw [ih, ih (2 * 0 + b.toNat), Nat.pow_succ]
    simp only [Nat.add_mul, Nat.mul_zero, Nat.zero_add]
    rw [show 2 * a * 2 ^ l.length = a * (2 ^ l.length * 2) by rw [Nat.mul_comm 2 a, Nat.mul_assoc, Nat.mul_comm 2]]
    omega

theorem number_cons (b : Bool) (l : List Bool) : number (b :: l) = b.toNat * 2 ^ l.length + number l := by
  have := foldl_number l b.toNat
  simpa [number] using this

theorem number_lt (l : List Bool) : number l < 2 ^ l.length := by
  induction l with
  | nil => simp [number]
  | cons b l ih =>
    rw [number_cons, List.length_cons, Nat.pow_succ]
    cases b <;> simp <;> omega

theorem number_digits (v n : Nat) : number (digits v n) = v % 2 ^ n := by
  induction n with
  | zero => simp [digits, number, Nat.mod_one]
  | succ n ih =>
    rw [digits, number_cons, digits_length, ih, Nat.pow_succ, Nat.mod_mul, Nat.testBit_eq_decide_div_mod_eq]
    have : v / 2 ^ n % 2 < 2 := Nat.mod_lt _ (by omega)
    rcases (show v / 2 ^ n % 2 = 0 ∨ v / 2 ^ n % 2 = 1 by omega) with h | h <;> simp [h] <;> omega

theorem number_digits_lt {v n : Nat} (h : v < 2 ^ n) : number (digits v n) = v := by
  rw [number_digits, Nat.mod_eq_of_lt h]

theorem digits_number (l : List Bool) : digits (number l) l.length = l := by
  induction l with
  | nil => rfl
  | cons b l ih =>
    rw [List.length_cons, digits]
    have h1 := number_lt l
    congr 1
    · rw [number_cons, Nat.testBit_eq_decide_div_mod_eq, Nat.mul_comm, Nat.mul_add_div (by omega), Nat.div_eq_of_lt h1]
      cases b <;> simp
    · refine Eq.trans ?_ ih
      apply ext_getD (by simp)
      intro j
      rw [digits_getD, digits_getD, number_cons]
      by_cases hj : j < l.length
      · congr 1
        rw [Nat.mul_comm, Nat.testBit_two_pow_mul_add _ h1]
        simp [show l.length - 1 - j < l.length by omega]
      · simp [hj]

theorem number_shift (l : List Bool) (v n : Nat) : number (l ++ digits v n) = number l * 2 ^ n + v % 2 ^ n := by
  rw [← number_digits]
  have := foldl_number (digits v n) (number l)
  simpa [number, List.foldl_append] using this

theorem number_app (l m : List Bool) : number (l ++ m) = number l * 2 ^ m.length + number m := by
  have := foldl_number m (number l)
  simpa [number, List.foldl_append] using this

theorem PackOf.nil : PackOf [] [] := ⟨rfl, fun j => by simp [bitAt]⟩

theorem u8_ext {a b : UInt8} (h : ∀ p, p < 8 → a.toNat.testBit p = b.toNat.testBit p) : a = b := by
  apply UInt8.toNat_inj.1
  apply Nat.eq_of_testBit_eq
  intro i
  by_cases hi : i < 8
  · exact h i hi
  · have h1 : a.toNat < 2 ^ i := Nat.lt_of_lt_of_le (UInt8.toNat_lt a) (Nat.pow_le_pow_right (by omega) (by omega) : 2 ^ 8 ≤ 2 ^ i)
    have h2 : b.toNat < 2 ^ i := Nat.lt_of_lt_of_le (UInt8.toNat_lt b) (Nat.pow_le_pow_right (by omega) (by omega) : 2 ^ 8 ≤ 2 ^ i)
    rw [Nat.testBit_lt_two_pow h1, Nat.testBit_lt_two_pow h2]

theorem bits_ext {a b : List UInt8} (hl : a.length = b.length) (h : ∀ j, bitAt a j = bitAt b j) : a = b := by
  apply List.ext_getElem hl
  intro i h1 h2
  apply u8_ext
  intro p hp
  have := h (8 * i + (7 - p))
  simp only [bitAt] at this
  rw [show (8 * i + (7 - p)) / 8 = i by omega, show 7 - (8 * i + (7 - p)) % 8 = p by omega] at this
  simpa [List.getD_eq_getElem?_getD, h1, h2] using this

theorem PackOf.unique {a b : List UInt8} {l : List Bool} (ha : PackOf a l) (hb : PackOf b l) : a = b :=
  bits_ext (ha.1.trans hb.1.symm) fun j => (ha.2 j).trans (hb.2 j).symm

theorem bitAt_set (bs : List UInt8) (i : Nat) (x : UInt8) (j : Nat) (hi : i < bs.length) :
    bitAt (bs.set i x) j = if j / 8 = i then x.toNat.testBit (7 - j % 8) else bitAt bs j := by
  simp only [bitAt, List.getD_eq_getElem?_getD, List.getElem?_set]
  by_cases h : j / 8 = i
  · simp [h, hi]
  · simp [h, Ne.symm h]

theorem bitAt_push0 (bs : List UInt8) (j : Nat) : bitAt (bs ++ [0]) j = bitAt bs j := by
  simp only [bitAt, List.getD_eq_getElem?_getD, List.getElem?_append]
  split
  · rfl
  · rename_i h
    rw [List.getElem?_eq_none (l := bs) (by omega)]
    rcases (show j / 8 - bs.length = 0 ∨ 0 < j / 8 - bs.length by omega) with h0 | h0
    · simp [h0]
    · rw [List.getElem?_eq_none (by simp only [List.length_singleton]; omega)]

/-- One round of Put: the last byte takes k bits more. -/
theorem PackOf.round {bs : List UInt8} {l : List Bool} (h : ∀ j, bitAt bs j = l.getD j false) (u k i : Nat) (x : UInt8) (hi : i = l.length / 8) (hib : i < bs.length) (hk : k ≤ 8 - l.length % 8)
    (hx : x.toNat = (bs.getD i 0).toNat ||| ((u % 2 ^ k) <<< (8 - l.length % 8 - k))) (hlen : bs.length = (l.length + k + 7) / 8) :
    PackOf (bs.set i x) (l ++ digits u k) := by
  refine ⟨by simp [hlen], fun j => ?_⟩
  rw [bitAt_set bs i x j hib, getD_append', digits_getD]
  have hj := h j
  by_cases hd : j / 8 = i
  · rw [if_pos hd, hx, Nat.testBit_or, Nat.testBit_shiftLeft, Nat.testBit_mod_two_pow]
    have hb : (bs.getD i 0).toNat.testBit (7 - j % 8) = bitAt bs j := by simp [bitAt, hd]
    rw [hb, hj]
    by_cases hc : j < l.length
    · rw [if_pos hc]
      have : ¬ (7 - j % 8 - (8 - l.length % 8 - k) < k) := by omega
      simp [this]
    · rw [if_neg hc]
      have h0 : l.getD j false = false := by simp [List.getD_eq_getElem?_getD, List.getElem?_eq_none (by omega : l.length ≤ j)]
      rw [h0, Bool.false_or]
      by_cases hjk : j - l.length < k
      · have a1 : 7 - j % 8 ≥ 8 - l.length % 8 - k := by omega
        have a2 : 7 - j % 8 - (8 - l.length % 8 - k) < k := by omega
        have a3 : 7 - j % 8 - (8 - l.length % 8 - k) = k - 1 - (j - l.length) := by omega
        rw [a3] at a2 ⊢
        simp [a1, a2, hjk]
      · have a1 : ¬ (7 - j % 8 ≥ 8 - l.length % 8 - k) ∨ l.length % 8 + k = 8 ∧ False := by left; omega
        rcases a1 with a1 | ⟨_, a1⟩
        · simp [hjk]
          intro h; omega
        · exact a1.elim
  · rw [if_neg hd, hj]
    by_cases hc : j < l.length
    · rw [if_pos hc]
    · rw [if_neg hc]
      have h0 : l.getD j false = false := by simp [List.getD_eq_getElem?_getD, List.getElem?_eq_none (by omega : l.length ≤ j)]
      rw [h0]
      have : ¬ j - l.length < k := by omega
      simp [this]

theorem PackOf.push0 {bs : List UInt8} {l : List Bool} (h : PackOf bs l) (j : Nat) : bitAt (bs ++ [0]) j = l.getD j false := by
  rw [bitAt_push0, h.2]

/-- Align: the bits 0 more. -/
theorem PackOf.align {bs : List UInt8} {l : List Bool} (h : PackOf bs l) : PackOf bs (l ++ List.replicate ((8 - l.length % 8) % 8) false) := by
  refine ⟨by rw [h.1]; simp; omega, fun j => ?_⟩
  rw [h.2, getD_append']
  split
  · rfl
  · rename_i hc
    have h0 : l.getD j false = false := by simp [List.getD_eq_getElem?_getD, List.getElem?_eq_none (by omega : l.length ≤ j)]
    rw [h0]
    simp only [List.getD_eq_getElem?_getD, List.getElem?_replicate]
    split <;> rfl

/-- The bits of bytes. -/
def rowOf : List UInt8 → List Bool
  | [] => []
  | b :: r => digits b.toNat 8 ++ rowOf r

@[simp] theorem rowOf_length (bs : List UInt8) : (rowOf bs).length = 8 * bs.length := by
  induction bs with
  | nil => rfl
  | cons b r ih => simp [rowOf, ih]; omega

theorem rowOf_append (a b : List UInt8) : rowOf (a ++ b) = rowOf a ++ rowOf b := by
  induction a with
  | nil => rfl
  | cons x r ih => simp [rowOf, ih]

theorem rowOf_getD (bs : List UInt8) (j : Nat) : (rowOf bs).getD j false = bitAt bs j := by
  induction bs generalizing j with
  | nil => simp [rowOf, bitAt]
  | cons b r ih =>
    rw [rowOf, getD_append', digits_length, digits_getD]
    by_cases h : j < 8
    · rw [if_pos h]
      simp [bitAt, h, show j / 8 = 0 by omega, show j % 8 = j by omega]
    · rw [if_neg h, ih]
      simp only [bitAt]
      rw [show j / 8 = (j - 8) / 8 + 1 by omega, show j % 8 = (j - 8) % 8 by omega, List.getD_cons_succ]

theorem PackOf.row (bs : List UInt8) : PackOf bs (rowOf bs) := ⟨by simp; omega, fun j => (rowOf_getD bs j).symm⟩

theorem PackOf.drop {bs : List UInt8} {l : List Bool} (h : PackOf bs l) (k : Nat) : PackOf (bs.drop k) (l.drop (8 * k)) := by
  refine ⟨by simp [h.1]; omega, fun j => ?_⟩
  have := h.2 (8 * k + j)
  simp only [bitAt, List.getD_eq_getElem?_getD, List.getElem?_drop] at this ⊢
  rw [← this, show (8 * k + j) / 8 = k + j / 8 by omega, show (8 * k + j) % 8 = j % 8 by omega]

/-- The first byte of packed bits. -/
theorem PackOf.cons {bs : List UInt8} {l : List Bool} (x : UInt8) (hl : l ≠ []) (h : PackOf bs (l.drop 8)) (hx : ∀ p, p < 8 → x.toNat.testBit (7 - p) = l.getD p false) : PackOf (x :: bs) l := by
  have : 0 < l.length := List.length_pos_iff.2 hl
  refine ⟨by simp [h.1]; omega, fun j => ?_⟩
  by_cases hj : j < 8
  · rw [bitAt, show j / 8 = 0 by omega, show j % 8 = j by omega]
    exact hx j hj
  · have := h.2 (j - 8)
    simp only [bitAt, List.getD_eq_getElem?_getD, List.getElem?_drop] at this ⊢
    rw [show j / 8 = (j - 8) / 8 + 1 by omega, show j % 8 = (j - 8) % 8 by omega, List.getElem?_cons_succ, this, show 8 + (j - 8) = j by omega]


theorem number_row (bs : List UInt8) (at_ k : Nat) (hb : at_ / 8 < bs.length) (hk : k ≤ 8 - at_ % 8) :
    ((rowOf bs).drop at_).take k = digits ((bs.getD (at_ / 8) 0).toNat >>> (8 - at_ % 8 - k)) k := by
  have hl : (((rowOf bs).drop at_).take k).length = k := by simp; omega
  apply ext_getD (by simp [hl])
  intro j
  rw [digits_getD]
  by_cases hj : j < k
  · have h1 := rowOf_getD bs (at_ + j)
    simp only [List.getD_eq_getElem?_getD, List.getElem?_take, List.getElem?_drop, if_pos hj] at h1 ⊢
    rw [h1, bitAt, Nat.testBit_shiftRight, show (at_ + j) / 8 = at_ / 8 by omega, show 7 - (at_ + j) % 8 = 8 - at_ % 8 - k + (k - 1 - j) by omega]
    simp [hj, List.getD_eq_getElem?_getD]
  · rw [List.getD_eq_getElem?_getD, List.getElem?_eq_none (by omega)]
    simp [hj]

theorem take_add' {α : Type} (l : List α) (a k : Nat) : l.take (a + k) = l.take a ++ (l.drop a).take k := by
  rw [List.take_add]

theorem number_zero_iff (l : List Bool) : number l = 0 ↔ ∀ b ∈ l, b = false := by
  induction l with
  | nil => simp [number]
  | cons b l ih =>
    rw [number_cons]
    cases b with
    | false => simp [ih]
    | true => simp

theorem testBit_number (l : List Bool) (j : Nat) (hj : j < l.length) : (number l).testBit (l.length - 1 - j) = l.getD j false := by
  conv => rhs; rw [← digits_number l]
  rw [digits_getD]
  simp [hj]

/-- The t-th eight bits, filled up. -/
def eight (l : List Bool) (t : Nat) : List Bool := (List.range 8).map fun k => l.getD (8 * t + k) false

@[simp] theorem eight_length (l : List Bool) (t : Nat) : (eight l t).length = 8 := by simp [eight]

theorem eight_getD (l : List Bool) (t k : Nat) (hk : k < 8) : (eight l t).getD k false = l.getD (8 * t + k) false := by
  simp [eight, List.getD_eq_getElem?_getD, hk]

theorem eight_lt (l : List Bool) (t : Nat) : number (eight l t) < 256 := by
  have := number_lt (eight l t)
  simpa using this

theorem bitAt_push (bs : List UInt8) (l : List Bool) (h : ∀ j, j < 8 * bs.length → bitAt bs j = l.getD j false) (j : Nat) (hj : j < 8 * (bs.length + 1)) :
    bitAt (bs ++ [UInt8.ofNat (number (eight l bs.length))]) j = l.getD j false := by
  by_cases h8 : j < 8 * bs.length
  · rw [← h j h8]
    simp only [bitAt, List.getD_eq_getElem?_getD, List.getElem?_append]
    rw [if_pos (by omega)]
  · have e : j / 8 = bs.length := by omega
    have hx : (UInt8.ofNat (number (eight l bs.length))).toNat = number (eight l bs.length) := by
      simp only [UInt8.toNat_ofNat']; exact Nat.mod_eq_of_lt (eight_lt l _)
    simp only [bitAt, List.getD_eq_getElem?_getD, List.getElem?_append, e, Nat.lt_irrefl, if_false, Nat.sub_self, List.getElem?_cons_zero, Option.getD_some]
    rw [hx]
    have := testBit_number (eight l bs.length) (j % 8) (by simp; omega)
    rw [eight_length, show 8 - 1 - j % 8 = 7 - j % 8 by omega, eight_getD l _ _ (by omega), show 8 * bs.length + j % 8 = j by omega] at this
    rw [this, List.getD_eq_getElem?_getD]

theorem PackOf.of_eight {bs : List UInt8} {l : List Bool} (hl : bs.length = (l.length + 7) / 8) (h : ∀ j, j < 8 * bs.length → bitAt bs j = l.getD j false) : PackOf bs l := by
  refine ⟨hl, fun j => ?_⟩
  by_cases hj : j < 8 * bs.length
  · exact h j hj
  · rw [bitAt, List.getD_eq_getElem?_getD, List.getElem?_eq_none (by omega), List.getD_eq_getElem?_getD, List.getElem?_eq_none (by omega)]
    simp

theorem number_take_succ (l : List Bool) (k : Nat) (h : k < l.length) : number (l.take (k + 1)) = 2 * number (l.take k) + (l.getD k false).toNat := by
  rw [List.take_add_one, List.getElem?_eq_getElem h, List.getD_eq_getElem?_getD, List.getElem?_eq_getElem h]
  exact number_append _ _
end Go.Proofs.Ytlcjlgdcleenlaa

/-
  Memory: what a call leaves alone. No program text here.
-/
namespace Go.Proofs.Ytlcjlgdcleenlaa
open Go.RowKit

/-- w' is w but for the blocks S and new blocks. -/
structure Fr (S : List Nat) (w w' : World) : Prop where
  os : w'.os = w.os
  tape : w'.tape = w.tape
  output : w'.output = w.output
  size : w.heap.size ≤ w'.heap.size
  block : ∀ k, k < w.heap.size → k ∉ S → w'.heap[k]? = w.heap[k]?

/-- A byte in a cell. -/
def B8 (x : UInt8) : Value := .int .u8 (x.toNat : Int)

/-- Block g is just the cells cs, of which none is frozen. -/
structure Blk (w : World) (g : Nat) (t : TypeId) (cs : Array Value) : Prop where
  here : w.heap[g]? = some (.cells cs t (0, 0))

section
variable {S S' : List Nat} {w w' a b c : World}
theorem Fr.refl (S : List Nat) (w : World) : Fr S w w := ⟨rfl, rfl, rfl, Nat.le_refl _, fun _ _ _ => rfl⟩
theorem Fr.trans (h : Fr S a b) (k : Fr S' b c) (hs : ∀ x ∈ S', x ∈ S ∨ a.heap.size ≤ x) : Fr S a c :=
  ⟨k.os.trans h.os, k.tape.trans h.tape, k.output.trans h.output, Nat.le_trans h.size k.size, fun i hi hn =>
    (k.block i (Nat.lt_of_lt_of_le hi h.size) (fun hm => by rcases hs i hm with h1 | h1; exact hn h1; omega)).trans (h.block i hi hn)⟩
theorem Fr.mono (h : Fr S a b) (hs : ∀ x ∈ S, x ∈ S' ∨ a.heap.size ≤ x) : Fr S' a b := (Fr.refl S' a).trans h hs
theorem Fr.drew (h : Fr S a w) : Fr S a w.drew := ⟨h.os, h.tape, h.output, h.size, h.block⟩
theorem Fr.drewN (h : Fr S a w) (n : Nat) : Fr S a (w.drewN n) := ⟨h.os, h.tape, h.output, h.size, h.block⟩
theorem Fr.alloc (h : Fr S a w) (o : Obj) : Fr S a (w.alloc o) :=
  h.trans (S' := []) ⟨rfl, rfl, rfl, by simp, fun k hk _ => Below.heap_alloc _ _ _ hk⟩ (by simp)
theorem Fr.setCell (h : Fr S a w) {p : Addr} (hp : p.block ∈ S ∨ a.heap.size ≤ p.block) (u : Value) : Fr S a (w.setCell p u) :=
  h.trans (S' := [p.block]) ⟨rfl, rfl, rfl, by simp [World.setCell], fun k _ hn => Below.heap_setCell _ _ _ _ (by simpa using hn)⟩ (by simpa using hp)
theorem Fr.grown (h : Fr S a w) {row : Option Nat} (hg : w.grownBy w' row) (hr : ∀ k, row = some k → k ∈ S ∨ a.heap.size ≤ k) : Fr S a w' :=
  h.trans (S' := row.toList) ⟨hg.os, hg.tape, hg.output, hg.size, fun k hk hn => hg.block k hk (by rintro rfl; simp at hn)⟩ (by
    intro x hx; cases row with
    | none => simp at hx
    | some k => simp at hx; subst hx; exact hr _ rfl)
theorem Fr.of_below (h : Below w.heap.size w w') (S : List Nat) : Fr S w w' := ⟨h.os, h.tape, h.output, h.size, fun k hk _ => h.block k hk⟩
theorem Fr.below {B : Nat} (h : Fr S w w') (hS : ∀ x ∈ S, B ≤ x) (hB : B ≤ w.heap.size) : Below B w w' :=
  ⟨h.os, h.tape, h.output, h.size, fun k hk => h.block k (by omega) (fun hm => by have := hS k hm; omega)⟩
theorem Fr.cell (h : Fr S w w') {p : Addr} (hp : p.block < w.heap.size) (hn : p.block ∉ S) : w'.cell? p = w.cell? p := World.cell?_of_block (h.block p.block hp hn)
theorem Fr.frozen (h : Fr S w w') {p : Addr} (hp : p.block < w.heap.size) (hn : p.block ∉ S) : w'.frozen? p = w.frozen? p := World.frozen?_of_block (h.block p.block hp hn)
end

section
variable {w w' : World} {g : Nat} {t : TypeId} {cs : Array Value}
theorem Blk.lt (h : Blk w g t cs) : g < w.heap.size := (Array.getElem?_eq_some_iff.1 h.here).1
theorem Blk.move (h : Blk w g t cs) (e : w'.heap[g]? = w.heap[g]?) : Blk w' g t cs := ⟨by rw [e, h.here]⟩
theorem Blk.cell (h : Blk w g t cs) (i : Nat) : w.cell? ⟨g, i, none⟩ = cs[i]? := by simp [World.cell?, h.here]
theorem Blk.frozen (h : Blk w g t cs) (i : Nat) : w.frozen? ⟨g, i, none⟩ = false := by simp [World.frozen?, h.here]
theorem Blk.new (w : World) (t : TypeId) (cs : Array Value) : Blk (w.alloc (.cells cs t)) w.heap.size t cs := ⟨heap_alloc_new w _⟩
theorem Blk.drew (h : Blk w g t cs) : Blk w.drew g t cs := ⟨h.here⟩
theorem Blk.drewN (h : Blk w g t cs) (n : Nat) : Blk (w.drewN n) g t cs := ⟨h.here⟩
theorem Blk.alloc (h : Blk w g t cs) (o : Obj) : Blk (w.alloc o) g t cs := h.move (Below.heap_alloc w o g h.lt)
theorem Blk.far (h : Blk w g t cs) {p : Addr} (hp : g ≠ p.block) (u : Value) : Blk (w.setCell p u) g t cs := h.move (Below.heap_setCell w p u g hp)
theorem Blk.set_ (h : Blk w g t cs) (i : Nat) (u : Value) : Blk (w.setCell ⟨g, i, none⟩ u) g t (cs.setIfInBounds i u) :=
  ⟨by simp only [World.setCell, Array.getElem?_modify, h.here]; rfl⟩
theorem Blk.fr {S : List Nat} (h : Blk w g t cs) (hf : Fr S w w') (hg : g ∉ S) : Blk w' g t cs := h.move (hf.block g h.lt hg)
end

/-- The slice value v holds the cells xs, in a row of its own (or it is nil). -/
def Own (w : World) (e : TypeId) (v : Value) (xs : List Value) : Prop := w.ownsRow 0 e 1 v xs.length xs

section
variable {w w' : World} {e : TypeId} {v : Value} {xs : List Value} {S : List Nat}
theorem Own.lt (h : Own w e v xs) : ∀ k, v.ownBlock = some k → k < w.heap.size := fun k hk => (World.ownsRow.lt h k hk).2
theorem Own.fr (h : Own w e v xs) (hf : Fr S w w') (hn : ∀ k, v.ownBlock = some k → k ∉ S) : Own w' e v xs := by
  refine ⟨h.1, ?_⟩
  rcases h.2 with h0 | ⟨g, cap, cur, rfl, hb, hgg, rest⟩
  · exact .inl h0
  · refine .inr ⟨g, cap, cur, rfl, hb, ?_, rest⟩
    rw [hf.block g (Array.getElem?_eq_some_iff.1 hgg).1 (hn g rfl)]
    exact hgg
theorem Own.form (h : Own w e v xs) : (v = .slice none 0 0 ∧ xs = []) ∨ ∃ g cap cur, v = .slice (some ⟨g, 0, none⟩) xs.length cap ∧ Blk w g e cur ∧ xs.length ≤ cap ∧ cap ≤ maxLen ∧ cur.size = cap ∧ cur.toList.take xs.length = xs := by
  rcases h.2 with ⟨h1, h2⟩ | ⟨g, cap, cur, h1, _, h3, h4, h5, h6, h7⟩
  · exact .inl ⟨h1, by simpa using h2⟩
  · exact .inr ⟨g, cap, cur, h1, ⟨h3⟩, h4, h5, by simpa using h6, by simpa using h7⟩
theorem Own.nil (w : World) (e : TypeId) : Own w e (.slice none 0 0) [] := World.ownsRow_nil w 0 e 1
theorem Own.drew (h : Own w e v xs) : Own w.drew e v xs := h
theorem Own.drewN (h : Own w e v xs) (n : Nat) : Own (w.drewN n) e v xs := h
theorem Own.alloc (h : Own w e v xs) (o : Obj) : Own (w.alloc o) e v xs := World.ownsRow.alloc h o
theorem Own.len_le (h : Own w e v xs) : xs.length ≤ maxLen := by
  rcases h.form with ⟨_, rfl⟩ | ⟨g, cap, cur, _, _, h1, h2, _⟩
  · simp
  · omega
theorem Own.slice {A : Option Addr} {n c : Nat} (h : Own w e (.slice A n c) xs) : n = xs.length := by
  rcases h.form with ⟨h1, rfl⟩ | ⟨g, cap, cur, h1, _⟩
  · injection h1
  · injection h1
theorem Own.cell {A : Option Addr} {n c : Nat} (h : Own w e (.slice A n c) xs) {j : Nat} (hj : j < xs.length) : ∃ g, A = some ⟨g, 0, none⟩ ∧ w.cell? ⟨g, j, none⟩ = xs[j]? ∧ w.frozen? ⟨g, j, none⟩ = false ∧ n = xs.length ∧ n ≤ c := by
  rcases h.form with ⟨h1, rfl⟩ | ⟨g, cap, cur, h1, hb, hc, _, hs, ht⟩
  · simp at hj
  · injection h1 with e1 e2 e3
    subst e1 e2 e3
    refine ⟨g, rfl, ?_, hb.frozen j, rfl, hc⟩
    rw [hb.cell, ← ht, List.getElem?_take, if_pos (by omega)]
    simp
theorem Own.at_ {g n c : Nat} (h : Own w e (.slice (some ⟨g, 0, none⟩) n c) xs) {j : Nat} (hj : j < xs.length) : w.cell? ⟨g, j, none⟩ = xs[j]? ∧ w.frozen? ⟨g, j, none⟩ = false ∧ g < w.heap.size := by
  obtain ⟨g', h1, h2, h3, -, -⟩ := h.cell hj
  injection h1 with h1
  injection h1 with h1
  subst h1
  exact ⟨h2, h3, h.lt g rfl⟩
theorem Own.last {i : Nat} (h : Own w e v xs) (hl : xs.length = i + 1) : ∃ g cap, v = .slice (some ⟨g, 0, none⟩) (i + 1) cap ∧ i + 1 ≤ cap ∧ w.cell? ⟨g, i, none⟩ = xs[i]? ∧ w.frozen? ⟨g, i, none⟩ = false ∧ g < w.heap.size := by
  rcases h.form with ⟨h1, rfl⟩ | ⟨g, cap, cur, rfl, hb, hc, _, hs, ht⟩
  · simp at hl
  · refine ⟨g, cap, by rw [hl], by omega, ?_, hb.frozen i, hb.lt⟩
    rw [hb.cell, ← ht, List.getElem?_take, if_pos (by omega)]
    simp
theorem Own.set {g n c : Nat} (h : Own w e (.slice (some ⟨g, 0, none⟩) n c) xs) (j : Nat) (u : Value) : Own (w.setCell ⟨g, j, none⟩ u) e (.slice (some ⟨g, 0, none⟩) n c) (xs.set j u) := by
  have hn := h.slice
  subst hn
  have := (World.ownsRow.stored h j u).1
  simpa [Own] using this
end


/-- The slice value src reads as the cells xs (nil let in). -/
def Src (w : World) (src : Value) (xs : List Value) : Prop :=
  (src = .slice none 0 0 ∧ xs = []) ∨ ∃ ad c, src = .slice (some ad) xs.length c ∧ xs.length ≤ c ∧ ∀ j u, xs[j]? = some u → w.cell? (ad.add j) = some u

/-- What was written is one slice's own row, or there is a new one. -/
def Own1 (v v' : Value) (w w' : World) : Prop := Fr v.ownBlock.toList w w' ∧ (v'.ownBlock = v.ownBlock ∨ ∃ g, v'.ownBlock = some g ∧ w.heap.size ≤ g)

theorem not_own {v : Value} {p : Nat} (h : v.ownBlock ≠ some p) : p ∉ v.ownBlock.toList := by
  cases hv : v.ownBlock with
  | none => simp
  | some k => rw [hv] at h; simp at h ⊢; omega

theorem add0 (g j : Nat) : (⟨g, 0, none⟩ : Addr).add j = ⟨g, j, none⟩ := by unfold Addr.add; split <;> simp_all

theorem Own.src {w : World} {e : TypeId} {v : Value} {xs : List Value} (h : Own w e v xs) : Src w v xs := by
  rcases h.form with h0 | ⟨g, cap, cur, h1, hb, h2, h3, h4, h5⟩
  · exact .inl h0
  · refine .inr ⟨⟨g, 0, none⟩, cap, h1, h2, fun j u hu => ?_⟩
    rw [add0, hb.cell]
    rw [← h5, List.getElem?_take] at hu
    split at hu
    · simpa using hu
    · cases hu

theorem addr_block (a : Addr) (n : Nat) : (a.add n).block = a.block := by by_cases h : n = 0 <;> simp [Addr.add, h]

theorem Src.fr {w w' : World} {S : List Nat} {src : Value} {xs : List Value} (h : Src w src xs) (hf : Fr S w w') (hS : ∀ k, src.ownBlock = some k → k ∉ S) : Src w' src xs := by
  rcases h with h | ⟨ad, c, rfl, hle, hc⟩
  · exact .inl h
  · refine .inr ⟨ad, c, rfl, hle, fun j u hu => ?_⟩
    have h1 := hc j u hu
    have h2 := World.block_lt_of_cell? w _ h1
    rw [hf.cell h2 (by rw [addr_block]; exact hS _ rfl)]
    exact h1
theorem Src.fr0 {w w' : World} {src : Value} {xs : List Value} (h : Src w src xs) (hf : Fr [] w w') : Src w' src xs := h.fr hf (by simp)

theorem addr_add_add (a : Addr) (m n : Nat) : (a.add m).add n = a.add (m + n) := by
  rcases Nat.eq_zero_or_pos m with rfl | hm
  · simp [Addr.add]
  · rcases Nat.eq_zero_or_pos n with rfl | hn
    · simp [Addr.add]
    · have h1 : m ≠ 0 := by omega
      have h2 : n ≠ 0 := by omega
      simp [Addr.add, h1, h2, Nat.add_assoc]

theorem Src.drop {w : World} {A : Option Addr} {n c k : Nat} {xs : List Value} (h : Src w (.slice A n c) xs) (hk : k ≤ n) :
    Src w (.slice (if c = k then A else A.map (·.add k)) (n - k) (c - k)) (xs.drop k) := by
  rcases h with ⟨h1, rfl⟩ | ⟨ad, c', h1, hle, hc⟩
  · injection h1 with e1 e2 e3
    subst e1 e2 e3
    obtain rfl : k = 0 := by omega
    exact .inl ⟨by simp, by simp⟩
  · injection h1 with e1 e2 e3
    subst e1 e2 e3
    by_cases hk2 : c = k
    · rw [if_pos hk2]
      refine .inr ⟨ad, c - k, by simp, by simp; omega, fun j u hu => ?_⟩
      rw [List.drop_of_length_le (by omega)] at hu
      cases hu
    · rw [if_neg hk2]
      refine .inr ⟨ad.add k, c - k, by simp, by simp; omega, fun j u hu => ?_⟩
      rw [List.getElem?_drop] at hu
      rw [addr_add_add]
      exact hc (k + j) u hu

theorem Src.drewN {w : World} {src : Value} {xs : List Value} (h : Src w src xs) (n : Nat) : Src (w.drewN n) src xs := h
theorem Src.drew {w : World} {src : Value} {xs : List Value} (h : Src w src xs) : Src w.drew src xs := h

theorem Src.one {w : World} {g : Nat} {u : Value} (h : w.cell? ⟨g, 0, none⟩ = some u) : Src w (.slice (some ⟨g, 0, none⟩) 1 1) [u] := by
  refine .inr ⟨⟨g, 0, none⟩, 1, rfl, Nat.le_refl _, fun j u' hu => ?_⟩
  cases j with
  | zero => rw [add0]; simp at hu; subst hu; exact h
  | succ j => simp at hu

theorem run_append_mine {P : Program} (w : World) (t ty e : TypeId) (i : TypeInfo) (z : Value) (bytes : Nat) (ht : P.underlying t = some (.slice e)) (hi : P.info? e = some i) (hz : i.zero = some z)
    (hsize : i.size = 1) (hby : i.bytes = bytes) (hzs : z.cells.size = 1) (v : Value) (xs : List Value) (hown : Own w e v xs) (src : Value) (news : List Value) (hs : Src w src news) (h1 : ∀ u ∈ news, u.oneCell' = true)
    (h63 : xs.length + news.length ≤ maxLen) (hbytes : (xs.length + news.length) * bytes ≤ 140737488355328) :
    ∃ v' w', (Builtin.append_ #[t, t] ty #[v, src]).run P w = .ok v' w' ∧ Own w' e v' (xs ++ news) ∧ Own1 v v' w w' := by
  rcases hs with ⟨rfl, rfl⟩ | ⟨ad, c, rfl, -, hn⟩
  · exact ⟨v, w, run_append_owned_none w 0 t ty e i 1 ht hi v _ xs hown, by simpa using hown, Fr.refl _ _, .inl rfl⟩
  · obtain ⟨v', w', hr, h2, h3, h4⟩ := run_append_own (P := P) w 0 t ty e i z 1 bytes ht hi hz hsize hby hzs (by omega) v xs.length xs hown ad news.length c news (by simp) hn h1 h63 hbytes (by omega)
    have hO : Own w' e v' (xs ++ news) := by unfold Own; simpa using h2
    have hF : Fr v.ownBlock.toList w w' := (Fr.refl _ _).grown h3 (fun k hk => .inl (by simp [hk]))
    refine ⟨v', w', hr, hO, hF, ?_⟩
    rcases hown.form with ⟨rfl, rfl⟩ | ⟨g, cap, cur, rfl, hb, hc1, hc2, hc3, hc4⟩
    · obtain ⟨v2, w2, hr2, h22, -, -⟩ := run_append_own (P := P) w w.heap.size t ty e i z 1 bytes ht hi hz hsize hby hzs (by omega) (.slice none 0 0) 0 [] (World.ownsRow_nil w _ e 1) ad news.length c news (by simp) hn h1 (by simpa using h63) (by simpa using hbytes) (Nat.le_refl _)
      rw [hr] at hr2
      injection hr2 with e1 e2
      subst e1 e2
      cases hv : v'.ownBlock with
      | none => exact .inl rfl
      | some k => exact .inr ⟨k, rfl, (h22.lt k hv).1⟩
    · by_cases hroom : xs.length + news.length ≤ cap
      · have hr2 := run_append_room (P := P) w t ty e i ht hi g xs.length cap cur hb.here ad news.length c news (by simp [hsize]) hn h1 hroom (by simp [hsize]; omega)
        rw [hr] at hr2
        injection hr2 with e1 e2
        subst e1
        exact .inl rfl
      · have hcell : ∀ j u, xs[j]? = some u → w.cell? ((⟨g, 0, none⟩ : Addr).add j) = some u := World.ownsRow.cells hown (g := g) rfl
        have hr2 := run_append_grow (P := P) w t ty e i z ht hi hz ⟨g, 0, none⟩ xs.length cap xs (by simp [hsize]) hcell ad news.length c news (by simp [hsize]) hn (by omega) (by simp only [maxLen] at h63; omega) (growslice_fits (by omega) (by rw [hby]; exact hbytes))
        rw [hr] at hr2
        injection hr2 with e1 e2
        subst e1
        exact .inr ⟨_, rfl, Nat.le_refl _⟩

theorem wpList_append_mine {P : Program} {w : World} {ops : Array Oper} {rest : List Oper} {o : Oper} {a : Act} {Q : Exit → Act → World → Prop} (s x : Operand) (t e : TypeId) (i : TypeInfo) (z : Value) (bytes : Nat)
    (hgd : o.guard = none) (ho : o.op = .call { callee := .builtin .append, args := #[s, x], argTypes := #[t, t] })
    (ht : P.underlying t = some (.slice e)) (hi : P.info? e = some i) (hz : i.zero = some z)
    (hsize : i.size = 1) (hby : i.bytes = bytes) (hzs : z.cells.size = 1) (v : Value) (xs : List Value) (src : Value) (news : List Value) (hv : a.eval s = v) (hsv : a.eval x = src)
    (hown : Own w e v xs) (hs : Src w src news) (h1 : ∀ u ∈ news, u.oneCell' = true)
    (h63 : xs.length + news.length ≤ maxLen) (hbytes : (xs.length + news.length) * bytes ≤ 140737488355328)
    (h : ∀ v' w', Own w' e v' (xs ++ news) → Own1 v v' w w' → wpList P ops Q rest (a.put o.dst v') w') : wpList P ops Q (o :: rest) a w := by
  refine wpList_plain hgd fun _ hK => ?_
  obtain ⟨v', w', hr, h2, h3⟩ := run_append_mine (P := P) w t o.type e i z bytes ht hi hz hsize hby hzs v xs hown src news hs h1 h63 hbytes
  unfold Oper.wp execOp
  simp only [ho, resolve, invoke, builtin, Sem.run_bind, Sem.run_pure, Result.andThen_ok, List.map_toArray, List.map_cons, List.map_nil, hv, hsv, hr]
  exact hK _ _ (h v' w' h2 h3)

theorem wp_append_mine {P : Program} {w : World} {o : Oper} {a : Act} {K : Act → World → Prop} {Q : Exit → Act → World → Prop} (s x : Operand) (t e : TypeId) (i : TypeInfo) (z : Value) (bytes : Nat)
    (ho : o.op = .call { callee := .builtin .append, args := #[s, x], argTypes := #[t, t] })
    (ht : P.underlying t = some (.slice e)) (hi : P.info? e = some i) (hz : i.zero = some z)
    (hsize : i.size = 1) (hby : i.bytes = bytes) (hzs : z.cells.size = 1) (v : Value) (xs : List Value) (src : Value) (news : List Value) (hv : a.eval s = v) (hsv : a.eval x = src)
    (hown : Own w e v xs) (hs : Src w src news) (h1 : ∀ u ∈ news, u.oneCell' = true)
    (h63 : xs.length + news.length ≤ maxLen) (hbytes : (xs.length + news.length) * bytes ≤ 140737488355328)
    (h : ∀ A c w', Own w' e (.slice A (xs.length + news.length) c) (xs ++ news) → Own1 v (.slice A (xs.length + news.length) c) w w' → K (a.put o.dst (.slice A (xs.length + news.length) c)) w') : o.wp P a w K Q := by
  obtain ⟨v', w', hr, h2, h3⟩ := run_append_mine (P := P) w t o.type e i z bytes ht hi hz hsize hby hzs v xs hown src news hs h1 h63 hbytes
  obtain ⟨A, c, rfl⟩ : ∃ A c, v' = .slice A (xs.length + news.length) c := by
    rcases h2.form with ⟨rfl, h0⟩ | ⟨g, cap, cur, rfl, -⟩
    · exact ⟨_, _, by have := congrArg List.length h0; simp only [List.length_append, List.length_nil] at this; rw [this]⟩
    · exact ⟨_, _, by rw [List.length_append]⟩
  unfold Oper.wp execOp
  simp only [ho, resolve, invoke, builtin, Sem.run_bind, Sem.run_pure, Result.andThen_ok, List.map_toArray, List.map_cons, List.map_nil, hv, hsv, hr]
  exact h A c w' h2 h3

theorem own_of_setRow {w : World} {e : TypeId} {g cap : Nat} {cur : Array Value} {n : Nat} (hb : Blk w g e cur) (hn : n ≤ cap) (hm : cap ≤ maxLen) (zs : List Value) (hz : zs.length = cap) :
    Own (w.setRow g zs.toArray) e (.slice (some ⟨g, 0, none⟩) n cap) (zs.take n) := by
  have hl : (zs.take n).length = n := by simp; omega
  refine ⟨by simp, .inr ⟨g, cap, zs.toArray, by rw [hl], Nat.zero_le _, setRow_heap w g cur _ e _ hb.here, by rw [hl]; exact hn, hm, by simp [hz], ?_⟩⟩
  rw [hl]; simp

theorem wpList_copy_mine {P : Program} {w : World} {ops : Array Oper} {rest : List Oper} {o : Oper} {a : Act} {Q : Exit → Act → World → Prop} (d s : Operand) (t t' e : TypeId)
    (hgd : o.guard = none) (ho : o.op = .call { callee := .builtin .copy, args := #[d, s], argTypes := #[t, t'] })
    (ht : P.underlying t = some (.slice e)) (hsz : (P.info? e).map (·.size) = some 1) (v src : Value) (ys xs : List Value) (hv : a.eval d = v) (hsv : a.eval s = src)
    (hown : Own w e v ys) (hs : Src w src xs) (h1 : ∀ u ∈ xs, u.oneCell' = true)
    (h : ∀ w', Own w' e v (xs.take ys.length ++ ys.drop xs.length) → Fr v.ownBlock.toList w w' → wpList P ops Q rest (a.put o.dst (goInt (min xs.length ys.length : Nat))) w') : wpList P ops Q (o :: rest) a w := by
  by_cases h0 : xs.length = 0 ∨ ys.length = 0
  · have hres : xs.take ys.length ++ ys.drop xs.length = ys := by
      rcases h0 with h0 | h0
      · simp [List.eq_nil_of_length_eq_zero h0]
      · simp [List.eq_nil_of_length_eq_zero h0]
    have hmin : (min xs.length ys.length : Nat) = 0 := by omega
    have hk := h w (by rw [hres]; exact hown) (Fr.refl _ _)
    rw [hmin] at hk
    obtain ⟨dp, dc, rfl⟩ : ∃ dp dc, v = .slice dp ys.length dc := by
      rcases hown.form with ⟨rfl, rfl⟩ | ⟨g, cap, cur, rfl, -⟩
      · exact ⟨_, _, rfl⟩
      · exact ⟨_, _, rfl⟩
    obtain ⟨sp, sc, rfl⟩ : ∃ sp sc, src = .slice sp xs.length sc := by
      rcases hs with ⟨rfl, rfl⟩ | ⟨ad, c, rfl, -⟩
      · exact ⟨_, _, rfl⟩
      · exact ⟨_, _, rfl⟩
    exact wpList_copy_nothing hgd d s t t' ho e ht hsz dp sp _ dc _ sc hv hsv hmin hk
  · rcases hown.form with ⟨rfl, rfl⟩ | ⟨g, cap, cur, rfl, hb, hc, hm, hcs, hct⟩
    · simp at h0
    rcases hs with ⟨rfl, rfl⟩ | ⟨ad, c, rfl, -, hcell⟩
    · simp at h0
    have hl : (xs.take ys.length).length = Nat.min xs.length ys.length := by rw [List.length_take, Nat.min_comm]
    refine wpList_copy_own hgd d s t t' ho e ht hsz g 0 _ _ ad _ _ hv hsv cur e hb.here (xs.take ys.length) hl ?_ ?_ ?_ ?_
    · intro j u hu
      refine hcell j u ?_
      rw [List.getElem?_take] at hu
      split at hu
      · exact hu
      · cases hu
    · simp; omega
    · exact fun u hu => h1 u (List.mem_of_mem_take hu)
    · have hO := own_of_setRow (n := ys.length) hb hc hm (cur.toList.take 0 ++ (xs.take ys.length ++ cur.toList.drop (0 + (xs.take ys.length).length))) (by simp; omega)
      have e1 : (cur.toList.take 0 ++ (xs.take ys.length ++ cur.toList.drop (0 + (xs.take ys.length).length))).take ys.length = xs.take ys.length ++ ys.drop xs.length := by
        simp only [List.take_zero, List.nil_append, Nat.zero_add, List.length_take]
        apply List.ext_getElem?
        intro j
        have hy : ∀ j, j < ys.length → cur[j]? = ys[j]? := fun j hj => by rw [← hct, List.getElem?_take, if_pos (by simpa using hj)]; simp
        simp only [List.getElem?_take, List.getElem?_append, List.length_take, List.getElem?_drop]
        by_cases hj : j < ys.length
        · by_cases hj2 : j < xs.length
          · have h3 : j < min ys.length xs.length := by omega
            simp [hj, h3]
          · have : ¬ j < min ys.length xs.length := by omega
            simp only [hj, if_true, this, if_false]
            rw [show xs.length + (j - min ys.length xs.length) = j by omega, show min ys.length xs.length + (j - min ys.length xs.length) = j by omega]
            simpa using hy j hj
        · simp only [hj, if_false]
          rw [if_neg (by omega), List.getElem?_eq_none (by omega)]
      rw [e1] at hO
      have := h _ hO ((Fr.refl _ _).grown (row := some g) ⟨rfl, rfl, rfl, by simp, fun k _ hk => setRow_other w g k _ (fun e => hk (by simp [e]))⟩ (fun k hk => .inl (by simpa [Value.ownBlock] using hk.symm)))
      have e2 : ((xs.take ys.length).length : Int) = ((min xs.length ys.length : Nat) : Int) := by simp [Nat.min_comm]
      rw [e2]
      exact this

theorem wpList_make_mine {P : Program} {w : World} {ops : Array Oper} {rest : List Oper} {o : Oper} {a : Act} {Q : Exit → Act → World → Prop} (l c : Operand) (t e : TypeId) (i : TypeInfo) (z : Value) (bytes : Nat) (kl kc : IntKind) (n : Nat)
    (hgd : o.guard = none) (hop : o.op = Op.makeSlice t l c) (h1 : P.underlying t = some (.slice e)) (h2 : P.info? e = some i) (h3 : i.zero = some z) (h4 : i.size = 1) (h5 : i.bytes = bytes) (h6 : z.cells = #[z])
    (hl : a.eval l = .int kl (n : Int)) (hc : a.eval c = .int kc (n : Int)) (b2 : bytes * n ≤ 281474976710656) (b3 : n ≤ maxLen)
    (h : ∀ w', Own w' e (.slice (some ⟨w.heap.size, 0, none⟩) n n) (List.replicate n z) → Fr [] w w' → w.heap.size < w'.heap.size → wpList P ops Q rest (a.put o.dst (.slice (some ⟨w.heap.size, 0, none⟩) n n)) w') : wpList P ops Q (o :: rest) a w := by
  refine wpList_make_full w hgd l c t hop 0 e i z 1 h1 h2 h3 h4 kl kc n n n hl hc rfl rfl (by rw [h5]; exact b2) b3 (Nat.zero_le _) fun w' hO hG => ?_
  have hO' : Own w' e (.slice (some ⟨w.heap.size, 0, none⟩) n n) (List.replicate n z) := by
    rw [h6, Nat.mul_one, toList_madeCells_one] at hO
    unfold Own
    rw [List.length_replicate]
    exact hO
  exact h w' hO' ((Fr.refl _ _).grown hG (fun k hk => by cases hk)) (hO'.lt _ rfl)

theorem Own.lit (w : World) (e : TypeId) (cs : Array Value) (n : Nat) (hn : cs.size = n) (hm : n ≤ maxLen) : Own (w.alloc (.cells cs e)) e (.slice (some ⟨w.heap.size, 0, none⟩) n n) cs.toList := by
  have h := World.ownsRow_lit (base := 0) (e := e) (size := 1) w cs n (Nat.zero_le _) hm (by omega)
  unfold Own
  rw [Array.length_toList, hn]
  exact h
end Go.Proofs.Ytlcjlgdcleenlaa

/-
  Contracts of bits.New, (*Writer).Len and (*Writer).Put: the writer that the pointer names has the bits L, and then L and the new ones; condition: L is no longer than 100000000000 bits.
-/
namespace Go.Proofs.Ytlcjlgdcleenlaa
open Go.RowKit

theorem shr_ne (a n : Nat) (h : 2 ^ n ≤ a) : ((a : Int) / 2 ^ n != 0) = true := by
  have h1 : 0 < a / 2 ^ n := Nat.div_pos h (Nat.two_pow_pos n)
  have e : (a : Int) / 2 ^ n = ((a / 2 ^ n : Nat) : Int) := by simp
  rw [e, bne_iff_ne]
  omega
theorem shr_eq (a n : Nat) (h : a < 2 ^ n) : ((a : Int) / 2 ^ n != 0) = false := by
  have e : (a : Int) / 2 ^ n = ((a / 2 ^ n : Nat) : Int) := by simp
  rw [e, Nat.div_eq_of_lt h]
  rfl

theorem and_ones (a m k fk : Nat) (ha : a < 18446744073709551616) (hk : fk + k ≤ 8) :
    ∃ z : Nat, z < 256 ∧ bits BinOp.and IntKind.u64 ((a : Int) / 2 ^ m) ((2 ^ k - 1 : Nat) : Int) = (z : Int) ∧ z = (a >>> m) % 2 ^ k ∧ z <<< fk < 256 := by
  have e : (a : Int) / 2 ^ m = ((a / 2 ^ m : Nat) : Int) := by simp
  have h0 : a / 2 ^ m ≤ a := Nat.div_le_self _ _
  have h1 : 2 ^ k ≤ 2 ^ 8 := Nat.pow_le_pow_right (by omega) (by omega)
  have h2 : (a / 2 ^ m) % 2 ^ k < 2 ^ k := Nat.mod_lt _ (Nat.two_pow_pos k)
  refine ⟨(a / 2 ^ m) % 2 ^ k, by omega, ?_, by rw [Nat.shiftRight_eq_div_pow], ?_⟩
  · rw [e, u64_and_nat _ _ (by omega) (by omega), Nat.and_two_pow_sub_one_eq_mod]
  · rw [Nat.shiftLeft_eq]
    have h3 : (a / 2 ^ m) % 2 ^ k * 2 ^ fk < 2 ^ k * 2 ^ fk := Nat.mul_lt_mul_of_pos_right h2 (Nat.two_pow_pos fk)
    have h4 : 2 ^ k * 2 ^ fk ≤ 2 ^ 8 := by rw [← Nat.pow_add]; exact Nat.pow_le_pow_right (by omega) (by omega)
    omega

theorem or_u8 (y z fk : Nat) (hy : y < 256) (hz : z <<< fk < 256) :
    bits BinOp.or IntKind.u8 (y : Int) ((z : Int) * 2 ^ fk % 256) = ((y ||| z <<< fk : Nat) : Int) ∧ (UInt8.ofNat (y ||| z <<< fk)).toNat = y ||| z <<< fk := by
  have h1 : y ||| z <<< fk < 2 ^ 8 := Nat.or_lt_two_pow (by omega) (by omega)
  have e : (z : Int) * 2 ^ fk % 256 = ((z <<< fk : Nat) : Int) := by
    have : ((z <<< fk : Nat) : Int) = (z : Int) * 2 ^ fk := by rw [Nat.shiftLeft_eq]; simp
    rw [← this]; exact Int.emod_eq_of_lt (Int.natCast_nonneg _) (Int.ofNat_lt.2 hz)
  refine ⟨by rw [e, u8_or_nat _ _ hy hz], ?_⟩
  simp only [UInt8.toNat_ofNat']
  exact Nat.mod_eq_of_lt h1

/-- What a call on the writer p, whose bytes lay at v, may have written. -/
def WFr (p : Nat) (v v' : Value) (w w' : World) : Prop := Fr (p :: v.ownBlock.toList) w w' ∧ (v'.ownBlock = v.ownBlock ∨ ∃ g, v'.ownBlock = some g ∧ w.heap.size ≤ g)

theorem WFr.app {p : Nat} {v v1 v2 : Value} {w0 w w3 : World} {o : Obj} (h : WFr p v v1 w0 w) (hG : Own1 v1 v2 (w.alloc o) w3) (u : Value) : WFr p v v2 w0 (w3.setCell ⟨p, 0, none⟩ u) := by
  obtain ⟨hf, hv⟩ := h
  obtain ⟨gf, gv⟩ := hG
  have hs := hf.size
  refine ⟨((hf.alloc o).trans gf ?_).setCell (.inl (by simp)) u, ?_⟩
  · intro x hx
    rcases hv with e | ⟨g, e, hg⟩
    · rw [e] at hx; exact .inl (List.mem_cons_of_mem _ hx)
    · rw [e] at hx; simp at hx; subst hx; exact .inr hg
  · rcases gv with e | ⟨g, e, hg⟩
    · rw [e]; exact hv
    · exact .inr ⟨g, e, by simp at hg; omega⟩

theorem info_u8 : (Try.prog.info? 5).map (fun i => (i.zero, i.size, i.bytes)) = some (some (.int .u8 0), 1, 1) := by kernel_rfl

/-- append onto bytes of the call's own. -/
theorem wp_append_u8 {w : World} {ops : Array Oper} {rest : List Oper} {o : Oper} {a : Act} {Q : Exit → Act → World → Prop} (s x : Operand) (v : Value) (xs : List UInt8) (src : Value) (news : List UInt8)
    (hgd : o.guard = none) (ho : o.op = .call { callee := .builtin .append, args := #[s, x], argTypes := #[23, 23] })
    (hv : a.eval s = v) (hsv : a.eval x = src) (hown : Own w 5 v (xs.map B8)) (hs : Src w src (news.map B8)) (hlen : xs.length + news.length ≤ 1000000000000)
    (h : ∀ v' w', Own w' 5 v' ((xs ++ news).map B8) → Own1 v v' w w' → wpList Try.prog ops Q rest (a.put o.dst v') w') : wpList Try.prog ops Q (o :: rest) a w := by
  obtain ⟨i, hi, hz, h1, h2⟩ := info_parts info_u8
  refine wpList_append_mine s x 23 5 i _ 1 hgd ho Try.underlying23 hi hz h1 h2 rfl v _ src _ hv hsv hown hs ?_ ?_ ?_ ?_
  · intro u hu
    obtain ⟨b, _, rfl⟩ := List.mem_map.1 hu
    rfl
  · simp only [List.length_map, maxLen]; omega
  · simp only [List.length_map]; omega
  · intro v' w' k1 k2
    exact h v' w' (by rw [List.map_append]; exact k1) k2

end Go.Proofs.Ytlcjlgdcleenlaa

/-
  Contracts of copied, (*Writer).Bytes and (*Writer).Align; conditions: the lengths are bounded as named.
-/
namespace Go.Proofs.Ytlcjlgdcleenlaa
open Go.RowKit

theorem B8_one (xs : List UInt8) : ∀ u ∈ xs.map B8, u.oneCell' = true := by
  intro u hu
  obtain ⟨b, _, rfl⟩ := List.mem_map.1 hu
  rfl

/-- A new row that holds the bytes xs. -/
def NewBytes (w : World) (xs : List UInt8) (e : Ending) (w' : World) : Prop :=
  ∃ c, e = .returned (.slice (some ⟨w.heap.size, 0, none⟩) xs.length c) ∧ Own w' 5 (.slice (some ⟨w.heap.size, 0, none⟩) xs.length c) (xs.map B8) ∧ Fr [] w w'

end Go.Proofs.Ytlcjlgdcleenlaa

/-
  append(x, make([]T, m)...) onto bytes of the call's own: a law that the library lacks. No program text here.
-/
namespace Go.Proofs.Ytlcjlgdcleenlaa
open Go.RowKit

theorem zeroCells_one (z : Value) (m : Nat) : Builtin.zeroCells #[z] m = (List.replicate m z).toArray := by
  apply Array.ext
  · simp [Builtin.zeroCells]
  · intro i h1 h2
    simp [Builtin.zeroCells, Nat.mod_one]

section
variable {P : Program}
theorem run_append_zeros (w : World) (t k ty e : TypeId) (i : TypeInfo) (z : Value) (bytes : Nat) (ht : P.underlying t = some (.slice e)) (hk : P.underlying k = some (.int .i64)) (hi : P.info? e = some i) (hz : i.zero = some z)
    (hsize : i.size = 1) (hby : i.bytes = bytes) (hzc : z.cells = #[z]) (hz1 : z.oneCell' = true) (v : Value) (xs : List Value) (hown : Own w e v xs) (m : Nat)
    (h63 : xs.length + m ≤ maxLen) (hbytes : (xs.length + m) * bytes ≤ 140737488355328) (hmb : m * bytes ≤ 281474976710656) :
    ∃ v' w', (Builtin.append_ #[t, k] ty #[v, .int .i64 (m : Int)]).run P w = .ok v' w' ∧ Own w' e v' (xs ++ List.replicate m z) ∧ Own1 v v' w w' := by
  subst hby
  have hml : m ≤ 9223372036854775807 := by simp only [maxLen] at h63; omega
  have hwr : IntKind.i64.wrap (m : Int) = (m : Int) := IntWalk.i64_in _ (by omega)
  have hneg : ¬ ((m : Int) < 0) := by omega
  have hmb' : ¬ ((281474976710656 : Int) < (m : Int) * (i.bytes : Int)) := by
    have : ((m * i.bytes : Nat) : Int) ≤ 281474976710656 := by omega
    rw [Int.natCast_mul] at this
    omega
  have hint : ∀ w, (asInt (.int .i64 (m : Int))).run P w = .ok (m : Int) w := fun _ => rfl
  have grown : ∀ (old : Nat), old < xs.length + m → Own (w.drew.alloc (.cells ((xs ++ List.replicate m z).toArray ++ Builtin.zeroCells z.cells (grownCap w (xs.length + m) old e - (xs.length + m))) e)) e
      (.slice (some ⟨w.heap.size, 0, none⟩) (xs.length + m) (grownCap w (xs.length + m) old e)) (xs ++ List.replicate m z) := by
    intro old ho
    have hge := grownCap_ge w (xs.length + m) old e
    have hcm : grownCap w (xs.length + m) old e ≤ maxLen := grownCap_le_maxLen w (xs.length + m) old e h63
    have hl : (xs ++ List.replicate m z).length = xs.length + m := by simp
    refine ⟨by simp, .inr ⟨w.heap.size, _, _, by rw [hl], Nat.zero_le _, heap_alloc_new w.drew _, by rw [hl]; exact hge, hcm, ?_, ?_⟩⟩
    · rw [hzc, zeroCells_one]; simp; omega
    · rw [hl, Array.toList_append, ← hl, Nat.mul_one]
      exact List.take_left
  rcases hown.form with ⟨rfl, rfl⟩ | ⟨g, cap, cur, rfl, hb, hc, hm, hcs, hct⟩
  · by_cases h0 : m = 0
    · have hint0 : ∀ w, (asInt (.int .i64 0)).run P w = .ok 0 w := fun _ => rfl
      have hw0 : IntKind.i64.wrap 0 = 0 := rfl
      subst h0
      refine ⟨.slice none 0 0, w, ?_, by simpa using Own.nil w e, Fr.refl _ _, .inl rfl⟩
      simp [Builtin.append_, run_underlying ht, run_underlying hk, sizeOf, typeInfo, hi, hint0, hw0]
    · have hr := grown 0 (by simpa using Nat.pos_of_ne_zero h0)
      simp only [List.length_nil, Nat.zero_add, List.nil_append] at hr hbytes
      have h48' : ¬ (281474976710656 < Builtin.nextslicecap m 0 * i.bytes) := by rw [nextslicecap_zero (by omega)]; omega
      have h63' : ¬ (9223372036854775807 < (m : Int)) := by omega
      refine ⟨_, _, ?_, by simpa using hr, ((Fr.refl _ w).drew).alloc _, .inr ⟨_, rfl, Nat.le_refl _⟩⟩
      simp [Builtin.append_, run_underlying ht, run_underlying hk, sizeOf, typeInfo, zeroValue, hi, hz, hsize, hint, hwr, hneg, hmb', h0, h63', h48', Question.forced, Builtin.firstCells, newRow, grownCap]
      congr 2
      rw [hzc, zeroCells_one, zeroCells_one]
      simp
  · have hx1 : (xs ++ List.replicate m z).length = xs.length + m := by simp
    by_cases h0 : m = 0
    · have hint0 : ∀ w, (asInt (.int .i64 0)).run P w = .ok 0 w := fun _ => rfl
      have hw0 : IntKind.i64.wrap 0 = 0 := rfl
      subst h0
      refine ⟨_, w, ?_, by simpa using hown, Fr.refl _ _, .inl rfl⟩
      simp [Builtin.append_, run_underlying ht, run_underlying hk, sizeOf, typeInfo, hi, hint0, hw0, hc, Addr.add_lit, storeCells]
    by_cases hroom : xs.length + m ≤ cap
    · have hst := run_storeCells_at P g xs.length e (List.replicate m z) 0 cur w hb.here (by simp; omega) (fun u hu => by rw [List.eq_of_mem_replicate hu]; exact hz1)
      simp only [Nat.add_zero] at hst
      refine ⟨.slice (some ⟨g, 0, none⟩) (xs.length + m) cap, w.setRow g (cur.toList.take xs.length ++ List.replicate m z ++ cur.toList.drop (xs.length + m)).toArray, ?_, ?_, ?_, .inl rfl⟩
      · simp [Builtin.append_, run_underlying ht, run_underlying hk, sizeOf, typeInfo, zeroValue, hi, hz, hsize, hint, hwr, hneg, hmb', h0, hroom, Addr.add_lit, hzc, zeroCells_one]
        rw [hst]
        simp
      · have h2 := own_of_setRow (n := xs.length + m) hb hroom hm (cur.toList.take xs.length ++ List.replicate m z ++ cur.toList.drop (xs.length + m)) (by simp; omega)
        rw [hct, List.take_append_of_le_length (by simp), ← hx1, List.take_length, hx1] at h2
        rw [hct]
        exact h2
      · exact ⟨rfl, rfl, rfl, by simp, fun j _ hj => setRow_other w g j _ (fun e => hj (by simp [Value.ownBlock, e]))⟩
    · have hr := grown cap (by omega)
      have h48' : ¬ (281474976710656 < Builtin.nextslicecap (xs.length + m) cap * i.bytes) := by have := growslice_fits (old := cap) (by omega) hbytes; omega
      have h63' : ¬ (9223372036854775807 < (xs.length : Int) + (m : Int)) := by simp only [maxLen] at h63; omega
      have hfo := run_firstCells_some (P := P) w.drew 1 xs.length ⟨g, 0, none⟩ xs.length cap xs (by simp) (fun j u hu => by
        rw [World.cell?_drew, add0, hb.cell]
        rw [← hct, List.getElem?_take] at hu
        split at hu
        · simpa using hu
        · cases hu)
      refine ⟨_, _, ?_, hr, ((Fr.refl _ w).drew).alloc _, .inr ⟨_, rfl, Nat.le_refl _⟩⟩
      simp [Builtin.append_, run_underlying ht, run_underlying hk, sizeOf, typeInfo, zeroValue, hi, hz, hsize, hint, hwr, hneg, hmb', h0, hroom, h63', h48', Question.forced, hfo, newRow, grownCap]
      congr 2
      rw [hzc, zeroCells_one, zeroCells_one]
      apply Array.ext'
      simp

theorem wpList_append_zeros {w : World} {ops : Array Oper} {rest : List Oper} {o : Oper} {a : Act} {Q : Exit → Act → World → Prop} (s x : Operand) (t k e : TypeId) (i : TypeInfo) (z : Value) (bytes : Nat)
    (hgd : o.guard = none) (ho : o.op = .call { callee := .builtin .append, args := #[s, x], argTypes := #[t, k] })
    (ht : P.underlying t = some (.slice e)) (hk : P.underlying k = some (.int .i64)) (hi : P.info? e = some i) (hz : i.zero = some z)
    (hsize : i.size = 1) (hby : i.bytes = bytes) (hzc : z.cells = #[z]) (hz1 : z.oneCell' = true) (v : Value) (xs : List Value) (m : Nat) (hv : a.eval s = v) (hm : a.eval x = .int .i64 (m : Int))
    (hown : Own w e v xs) (h63 : xs.length + m ≤ maxLen) (hbytes : (xs.length + m) * bytes ≤ 140737488355328) (hmb : m * bytes ≤ 281474976710656)
    (h : ∀ v' w', Own w' e v' (xs ++ List.replicate m z) → Own1 v v' w w' → wpList P ops Q rest (a.put o.dst v') w') : wpList P ops Q (o :: rest) a w := by
  refine wpList_plain hgd fun _ hK => ?_
  obtain ⟨v', w', hr, h2, h3⟩ := run_append_zeros (P := P) w t k o.type e i z bytes ht hk hi hz hsize hby hzc hz1 v xs hown m h63 hbytes hmb
  unfold Oper.wp execOp
  simp only [ho, resolve, invoke, builtin, Sem.run_bind, Sem.run_pure, Result.andThen_ok, List.map_toArray, List.map_cons, List.map_nil, hv, hm, hr]
  exact hK _ _ (h v' w' h2 h3)
end
end Go.Proofs.Ytlcjlgdcleenlaa

/-
  Bytes that a call made for itself: their cells, what a store does, what is appended. No law's text here.
-/
namespace Go.Proofs.Ytlcjlgdcleenlaa
open Go.RowKit

/-- Bytes in memory that is new since w0. -/
structure Mine (w0 w : World) (v : Value) (bs : List UInt8) : Prop where
  own : Own w 5 v (bs.map B8)
  fr : Fr [] w0 w
  new : ∀ k, v.ownBlock = some k → w0.heap.size ≤ k

section
variable {w0 w w' : World} {v : Value} {bs : List UInt8}
theorem Mine.fr0 (h : Mine w0 w v bs) (hf : Fr [] w w') : Mine w0 w' v bs := ⟨h.own.fr hf (by simp), h.fr.trans hf (by simp), h.new⟩
theorem Mine.src (h : Mine w0 w v bs) : Src w v (bs.map B8) := h.own.src
theorem Mine.copied {xs : List UInt8} {vo : Value} (hO : Own w' 5 vo (xs.map B8)) (hG : Own1 (.slice (some ⟨w.heap.size, 0, none⟩) 0 0) vo (w.alloc (.cells #[] 5)) w') (hF : Fr [] w0 w) : Mine w0 w' vo xs := by
  refine ⟨hO, (hF.alloc _).trans hG.1 (by intro x hx; simp [Value.ownBlock] at hx; subst hx; exact .inr hF.size), ?_⟩
  intro k hk
  have := hF.size
  rcases hG.2 with e | ⟨g, e, hg⟩
  · rw [e] at hk; simp [Value.ownBlock] at hk; omega
  · rw [e] at hk; injection hk with hk; subst hk; simp at hg; omega
theorem Mine.appended {v' : Value} {xs ys : List UInt8} (h : Mine w0 w v xs) (hO : Own w' 5 v' ((xs ++ ys).map B8)) (hG : Own1 v v' w w') : Mine w0 w' v' (xs ++ ys) := by
  refine ⟨hO, h.fr.trans hG.1 (by intro x hx; exact .inr (h.new x (by simpa using hx))), ?_⟩
  intro k hk
  have := h.fr.size
  rcases hG.2 with e | ⟨g, e, hg⟩
  · rw [e] at hk; exact h.new k hk
  · rw [e] at hk; injection hk with hk; subst hk; omega
theorem Mine.slice (h : Mine w0 w v bs) : ∃ A c, v = .slice A bs.length c := by
  rcases h.own.form with ⟨rfl, h0⟩ | ⟨g, cap, cur, rfl, -⟩
  · exact ⟨none, 0, by have := congrArg List.length h0; simp at this; rw [this]; rfl⟩
  · exact ⟨_, _, by simp; exact ⟨rfl, rfl⟩⟩
/-- A cell, to be read and written. -/
theorem Mine.cell {A : Option Addr} {n c j : Nat} (h : Mine w0 w (.slice A n c) bs) (hj : j < bs.length) :
    ∃ g, A = some ⟨g, 0, none⟩ ∧ w0.heap.size ≤ g ∧ w.cell? ⟨g, j, none⟩ = some (.int .u8 ((bs.getD j 0).toNat : Int)) ∧ w.frozen? ⟨g, j, none⟩ = false ∧ n = bs.length ∧
      ∀ z : UInt8, Mine w0 (w.setCell ⟨g, j, none⟩ (.int .u8 (z.toNat : Int))) (.slice A n c) (bs.set j z) ∧ Fr [g] w (w.setCell ⟨g, j, none⟩ (.int .u8 (z.toNat : Int))) := by
  obtain ⟨g, rfl, h1, h2, h3, h4⟩ := h.own.cell (j := j) (by simpa using hj)
  refine ⟨g, rfl, h.new g rfl, ?_, h2, by simpa using h3, fun z => ⟨⟨?_, h.fr.setCell (.inr (h.new g rfl)) _, h.new⟩, (Fr.refl _ _).setCell (.inl (by simp)) _⟩⟩
  · rw [h1, List.getElem?_map, List.getElem?_eq_getElem hj, List.getD_eq_getElem?_getD, List.getElem?_eq_getElem hj]; rfl
  · have := h.own.set j (.int .u8 (z.toNat : Int))
    rw [List.map_set]
    exact this
end

theorem Mine.nil (w : World) : Mine w w (.slice none 0 0) [] := ⟨Own.nil _ _, Fr.refl _ _, by simp [Value.ownBlock]⟩

/-- append of a made row of bytes, onto bytes of the call's own. -/
theorem wp_append_zeros_u8 {w : World} {ops : Array Oper} {rest : List Oper} {o : Oper} {a : Act} {Q : Exit → Act → World → Prop} (s x : Operand) (v : Value) (xs : List UInt8) (m : Nat)
    (hgd : o.guard = none) (ho : o.op = .call { callee := .builtin .append, args := #[s, x], argTypes := #[23, 3] })
    (hv : a.eval s = v) (hm : a.eval x = .int .i64 (m : Int)) (hown : Own w 5 v (xs.map B8)) (hlen : xs.length + m ≤ 1000000000000)
    (h : ∀ v' w', Own w' 5 v' ((xs ++ List.replicate m 0).map B8) → Own1 v v' w w' → wpList Try.prog ops Q rest (a.put o.dst v') w') : wpList Try.prog ops Q (o :: rest) a w := by
  obtain ⟨i, hi, hz, h1, h2⟩ := info_parts info_u8
  refine wpList_append_zeros s x 23 3 5 i _ 1 hgd ho Try.underlying23 Try.underlying3 hi hz h1 h2 rfl rfl v _ m hv hm hown ?_ ?_ ?_ ?_
  · simp only [List.length_map, maxLen]; omega
  · simp only [List.length_map]; omega
  · omega
  · intro v' w' k1 k2
    refine h v' w' ?_ k2
    rw [List.map_append, List.map_replicate]
    exact k1

/-- append onto bytes of the call's own, behind a test that held. -/
theorem wp_append_u8G {w : World} {ops : Array Oper} {rest : List Oper} {o : Oper} {a : Act} {Q : Exit → Act → World → Prop} (s x : Operand) (v : Value) (xs : List UInt8) (src : Value) (news : List UInt8)
    (hw : Region.wanted o (yielded ops a.tmps) = true) (ho : o.op = .call { callee := .builtin .append, args := #[s, x], argTypes := #[23, 23] })
    (hv : a.eval s = v) (hsv : a.eval x = src) (hown : Own w 5 v (xs.map B8)) (hs : Src w src (news.map B8)) (hlen : xs.length + news.length ≤ 1000000000000)
    (h : ∀ v' w', Own w' 5 v' ((xs ++ news).map B8) → Own1 v v' w w' → wpList Try.prog ops Q rest (a.put o.dst v') w') : wpList Try.prog ops Q (o :: rest) a w := by
  refine wpList_step fun K hK => ?_
  rw [if_pos hw]
  obtain ⟨i, hi, hz, h1, h2⟩ := info_parts info_u8
  refine wp_append_mine s x 23 5 i _ 1 ho Try.underlying23 hi hz h1 h2 rfl v _ src _ hv hsv hown hs ?_ ?_ ?_ ?_
  · intro u hu
    obtain ⟨b, _, rfl⟩ := List.mem_map.1 hu
    rfl
  · simp only [List.length_map, maxLen]; omega
  · simp only [List.length_map]; omega
  · intro A c w' k1 k2
    rw [← List.map_append] at k1
    exact hK _ _ (h _ _ k1 k2)

end Go.Proofs.Ytlcjlgdcleenlaa

/-
  From a contract of a law (it answers true, and nothing that was there has turned) to its row. No program text here.
-/
namespace Go.Proofs.Ytlcjlgdcleenlaa
open Go.ChangeShapes Go.WideShapes Go.ChangeAt Go.RowKit

section
variable {H : Type} {enc : TypeId × Value → H} {P : Program}

/-- Every argument reads behind the call as it did. -/
theorem args_stay (hl : laidOutB P = true) {W W' : World} (hb : Below W.heap.size W W') (sp : Nat → Bool) :
    ∀ (ts : List TypeId) (vs : List Value) (ds : List (DataW H)) (ps : List MemPlace), (∀ t ∈ ts, P.readableRec t = true ∧ t < P.types.size) →
      DataW.TrodAll enc P W 0 (fun _ => true) true ts vs ds ps → (∀ x ∈ ps, x.block < W.heap.size) → (∀ x ∈ ps, sp x.block = true) → DataW.TrodAll enc P W' 0 sp true ts vs ds ps := by
  intro ts
  induction ts with
  | nil =>
    intro vs ds ps _ h _ _
    obtain ⟨rfl, rfl, rfl⟩ := trodAll_nil h
    exact rfl
  | cons t ts ih =>
    intro vs ds ps ht h hlt hsp
    obtain ⟨v, vs', d, ds', p, q, rfl, rfl, rfl, h1, h2⟩ := trodAll_cons h
    have ⟨r1, r2⟩ := ht t (List.mem_cons_self ..)
    refine ⟨p, q, ?_, (ih vs' ds' q (fun t' h' => ht t' (List.mem_cons_of_mem _ h')) h2 (fun x hx => hlt x (List.mem_append_right _ hx)) (fun x hx => hsp x (List.mem_append_right _ hx))), rfl⟩
    exact WideElems.Trod_stays hl r1 r2 h1 (fun x hx => hb.same (hlt x (List.mem_append_left _ hx))) (fun x hx => hsp x (List.mem_append_left _ hx))

/-- What the row asks behind a law's call. -/
theorem law_post (hl : laidOutB P = true) {f : Func} {s : ChangeSpec} {W W' : World} {args : Array Value} {ds gs : List (DataW H)} {before : List MemPlace} {tb : TypeId}
    (hW : DataW.Whole enc P f.params.toList s.vars false W args.toList ds gs before) (hv : s.vars = []) (hspec : s.fn H ds = { results := [.lit (.bool true)], args := ds })
    (hp : ∀ t ∈ f.params.toList, P.readableRec t = true ∧ t < P.types.size) (hr : f.resultTypes = #[tb]) (hbool : P.underlying tb = some .bool) (hb : Below W.heap.size W W') :
    s.post enc P f false true false false W args (.bool true) W' := by
  have hW0 := hW
  obtain ⟨pa, pv, hA, hV, hps, hz, -⟩ := hW
  rw [hv] at hV
  obtain ⟨rfl, rfl⟩ := trodVars_none hV
  rw [List.append_nil] at hps
  subst hps
  have hlt : ∀ x ∈ before, x.block < W.heap.size := fun x hx => hW0.lt x hx
  have hS : s.fn H (ds ++ []) = { results := [.lit (.bool true)], args := ds } := by rw [List.append_nil]; exact hspec
  have hres : ∀ (b : Nat) (sp : Nat → Bool) (hd : Bool), DataW.TrodAll enc P W' b sp hd f.resultTypes.toList ((Value.bool true).resultList f.resultTypes.size) [.lit (.bool true)] [] := by
    intro b sp hd
    rw [hr]
    exact trodAll_mk1 (shut_bool hbool _)
  have hargs : ∀ sp : Nat → Bool, (∀ x ∈ before, sp x.block = true) → DataW.TrodAll enc P W' 0 sp true f.params.toList args.toList ds before := fun sp hsp => args_stay hl hb sp _ _ _ _ hp hA hlt hsp
  refine ⟨ds, [], before, [], before, [], hW0, ?_, ?_, ?_, World.keptBut_mono (fun x hx => ⟨hx, .inr ?_⟩) (hb.frame (· ∈ before)), fun _ => ?_⟩
  · rw [hS]; exact hres _ _ _
  · rw [hS]; exact hargs _ (fun x hx => by simpa using hlt x hx)
  · rw [hS, hv]; exact rfl
  · simpa using hx
  · refine ⟨ok_one hr rfl (okWide_bool_mk hbool _), _, [], ([] ++ before) ++ [], ⟨[] ++ before, [], trodAll_append (hargs _ (fun _ _ => rfl)) (hres _ _ _), by rw [hv]; exact rfl, rfl, ?_, fun h => by cases h⟩, fun x hx _ => by simpa using hx⟩
    intro b off hx
    have hx' : MemPlace.cell b off ∈ before := by simpa using hx
    rw [hb.frozen (hlt _ hx')]
    exact hz b off hx'
end

/-- A law's row, from its contract. -/
theorem law_lift {C : Checked} {H : Type} {enc : TypeId × Value → H} {os : Os} (own : ownKnob C.prog.godebug = none) (started : os.Started) {f : FuncId} {fn : Func} {s : ChangeSpec}
    (noInit : C.prog.inits.idxOf? f = none) (hfn : C.prog.funcs[f]? = some fn)
    (witness : ∃ (w : World) (tape : Tape) (i : Input), w.os = os ∧ (w.forCall tape i).Shaped C.prog ∧ i.vars = [] ∧ Input.okWide C.prog (w.forCall tape i) .any w.heap.size f i ∧
      s.pre6 enc C.prog fn [] false (w.forCall tape i).memory i.args ∧ ({} : Assume).holds C.prog (lone (Frame.enter C.prog f i.args .normal) [] (w.forCall tape i)))
    (hl : laidOutB C.prog = true) (hv : s.vars = []) {tb : TypeId} (hr : fn.resultTypes = #[tb]) (hbool : C.prog.underlying tb = some .bool)
    (hp : ∀ t ∈ fn.params.toList, C.prog.readableRec t = true ∧ t < C.prog.types.size)
    (contract : ∀ (W : World) (base : Nat) (args : Array Value) (ds : List (DataW H)) (before : List MemPlace),
      (∀ (j : Nat) t v, fn.params[j]? = some t → args[j]? = some v → Value.okWide C.prog W .any base t v) →
      DataW.TrodAll enc C.prog W 0 (fun _ => true) true fn.params.toList args.toList ds before → (∀ x ∈ before, x.block < W.heap.size) →
      s.fn H ds = { results := [.lit (.bool true)], args := ds } ∧ Calls C.prog f args W fun e W' => e = .returned (.bool true) ∧ Below W.heap.size W W') :
    ReturnsInHanded {} C os f .any (s.pre6 enc C.prog fn [] false) (s.post enc C.prog fn false true false false) := by
  refine returnsInHanded_of_change own started noInit hfn witness ?_
  intro W base args ds gs before hval hW _ _
  have hW0 := hW
  obtain ⟨pa, pv, hA, hV, hps, -, -⟩ := hW
  rw [hv] at hV
  obtain ⟨rfl, rfl⟩ := trodVars_none hV
  rw [List.append_nil] at hps
  subst hps
  obtain ⟨h1, h2⟩ := contract W base args ds before hval hA (fun x hx => hW0.lt x hx)
  refine h2.mono fun e W' ⟨he, hb⟩ => ?_
  exact ⟨_, he, law_post hl hW0 hv h1 hp hr hbool hb⟩
end Go.Proofs.Ytlcjlgdcleenlaa

/-
  An argument that is a list of acts, read as cells: kind, width and number of each; no condition.
-/
namespace Go.Proofs.Ytlcjlgdcleenlaa
open Go.ChangeShapes Go.WideShapes Go.ChangeAt Go.RowKit Go.Deep

/-- The script's acts as cells: kind, width, number of each. -/
def Acts (w : World) (A : Option Addr) (len : Nat) (acts : List (Int × Int × Nat)) : Prop :=
  acts.length = len ∧ ∀ (i : Nat) (k n : Int) (v : Nat), acts[i]? = some (k, n, v) → v < 18446744073709551616 ∧ ∃ b o, A = some ⟨b, o, none⟩ ∧
    w.cell? ⟨b, o + i * 3, none⟩ = some (.int .i64 k) ∧ w.cell? ⟨b, o + i * 3 + 1, none⟩ = some (.int .i64 n) ∧ w.cell? ⟨b, o + i * 3 + 2, none⟩ = some (.int .u64 (v : Int))

theorem Acts.fr {w w' : World} {A : Option Addr} {len : Nat} {acts : List (Int × Int × Nat)} (h : Acts w A len acts) (hf : Fr [] w w') : Acts w' A len acts := by
  refine ⟨h.1, fun i k n v hi => ?_⟩
  obtain ⟨hv, b, o, rfl, h1, h2, h3⟩ := h.2 i k n v hi
  have f : ∀ (j : Nat) (u : Value), w.cell? ⟨b, j, none⟩ = some u → w'.cell? ⟨b, j, none⟩ = some u := fun j u hu => (hf.cell (World.block_lt_of_cell? w _ hu) (by simp)).trans hu
  exact ⟨hv, b, o, rfl, f _ _ h1, f _ _ h2, f _ _ h3⟩

theorem plain_of_cell {w : World} {a : Addr} {u : Value} (h : w.cell? a = some u) : a = ⟨a.block, a.off, none⟩ := by
  cases he : a.spot with
  | none => cases a; simp at he ⊢; exact he
  | some x =>
    unfold World.cell? at h
    simp only [he, Option.isSome_some, if_true] at h
    split at h <;> cases h

theorem add_plain (b o j : Nat) : (⟨b, o, none⟩ : Addr).add j = ⟨b, o + j, none⟩ := by
  by_cases hj : j = 0
  · subst hj; simp [Addr.add]
  · simp [Addr.add, hj]

theorem u64_nat {x : Int} (h : (Lit.int .u64 x).wf = true) : ∃ v : Nat, x = (v : Int) ∧ v < 18446744073709551616 := by
  simp [Lit.wf, IntKind.min, IntKind.max, IntKind.signed, IntKind.bits] at h
  exact ⟨x.toNat, by omega, by omega⟩

section
variable {H : Type} {enc : TypeId × Value → H} {w : World} {base : Nat} {spare : Nat → Bool} {held : Bool}
theorem u8_cell {x : Int} (h : (Lit.int .u8 x).wf = true) : ∃ b : UInt8, Value.int .u8 x = B8 b := by
  simp [Lit.wf, IntKind.min, IntKind.max, IntKind.signed, IntKind.bits] at h
  refine ⟨UInt8.ofNat x.toNat, ?_⟩
  simp only [B8, UInt8.toNat_ofNat', Value.int.injEq, true_and]
  rw [Nat.mod_eq_of_lt (by omega)]
  omega

/-- An argument that is a list of bytes. -/
theorem open_bytes {n : Nat} {v : Value} {d : DataW H} {ps : List MemPlace} (h : DataW.trod enc Try.prog w base spare held n 23 [v] = some (d, ps)) :
    ∃ (A : Option Addr) (len cap : Nat) (bs : List UInt8), v = .slice A len cap ∧ bs.length = len ∧ len ≤ maxLen ∧ Src w (.slice A len cap) (bs.map B8) := by
  rcases open_slice Try.underlying23 h with ⟨h0, -⟩ | ⟨a, len, cap, m, n', D, Pl, h0, -, hc, hm, hmm, -, hi⟩
  · exact ⟨none, 0, 0, [], by simpa using h0, rfl, by simp, .inl ⟨rfl, rfl⟩⟩
  · have hlm : len ≤ m := by rw [hmm]; split <;> omega
    have e1 : Try.prog.cellsOf 5 = 1 := by kernel_rfl
    have each : ∀ i, i < len → ∃ b : UInt8, w.cell? (a.add i) = some (B8 b) := by
      intro i hil
      obtain ⟨cs', hcs, ht⟩ := hi i (by omega)
      rw [e1, Nat.mul_one] at hcs
      obtain ⟨-, -, hcell⟩ := World.cells?_some hcs
      obtain ⟨x, rfl, -, hwf⟩ := DataW.trod_int Try.underlying5 ht
      obtain ⟨b, hb⟩ := u8_cell hwf
      have := hcell 0 (by omega)
      simp only [Addr.add, if_pos, List.getElem?_cons_zero] at this
      exact ⟨b, by rw [← hb]; exact this⟩
    let f : Nat → UInt8 := fun i => if hil : i < len then Classical.choose (each i hil) else 0
    have hf : ∀ i, i < len → w.cell? (a.add i) = some (B8 (f i)) := by
      intro i hil
      simp only [f, dif_pos hil]
      exact Classical.choose_spec (each i hil)
    refine ⟨some a, len, cap, (List.range len).map f, by simpa using h0, by simp, by omega, .inr ⟨a, cap, by simp, by simpa using hc, fun j u hu => ?_⟩⟩
    rw [List.getElem?_map, List.getElem?_map] at hu
    by_cases hj : j < len
    · rw [List.getElem?_range hj] at hu
      simp at hu
      rw [← hu]
      exact hf j hj
    · rw [List.getElem?_eq_none (by simpa using hj)] at hu
      simp at hu
end
end Go.Proofs.Ytlcjlgdcleenlaa

/-
  An argument that is a list of one-cell things (numbers, truth values), read as cells; no condition.
-/
namespace Go.Proofs.Ytlcjlgdcleenlaa
open Go.ChangeShapes Go.WideShapes Go.ChangeAt Go.RowKit Go.Deep

/-- The k-th cell of what came in. -/
theorem Src.cellAt {α : Type} {w : World} {A : Option Addr} {n c k : Nat} {xs : List α} {f : α → Value} (h : Src w (.slice A n c) (xs.map f)) {x : α} (hk : xs[k]? = some x) : ∃ ad, A = some ad ∧ w.cell? (ad.add k) = some (f x) := by
  rcases h with ⟨_, h0⟩ | ⟨ad, c', h1, _, hc⟩
  · rw [List.map_eq_nil_iff.1 h0] at hk; simp at hk
  · injection h1 with h1
    exact ⟨ad, h1, hc k _ (by rw [List.getElem?_map, hk]; rfl)⟩

section
variable {H : Type} {enc : TypeId × Value → H} {w : World} {base : Nat} {spare : Nat → Bool} {held : Bool}
theorem open_cells {α : Type} [Inhabited α] {st e : TypeId} (f : α → Value) (hst : Try.prog.underlying st = some (.slice e)) (hc : Try.prog.cellsOf e = 1)
    (each : ∀ n' cs x, DataW.trod enc Try.prog w base spare held n' e cs = some x → ∃ a : α, cs = [f a])
    {n : Nat} {v : Value} {d : DataW H} {ps : List MemPlace} (h : DataW.trod enc Try.prog w base spare held n st [v] = some (d, ps)) :
    ∃ (A : Option Addr) (len cap : Nat) (l : List α), v = .slice A len cap ∧ l.length = len ∧ len ≤ maxLen ∧ Src w (.slice A len cap) (l.map f) := by
  rcases open_slice hst h with ⟨h0, -⟩ | ⟨a, len, cap, m, n', D, Pl, h0, -, hcap, hm, hmm, -, hi⟩
  · exact ⟨none, 0, 0, [], by simpa using h0, rfl, by simp, .inl ⟨rfl, rfl⟩⟩
  · have hlm : len ≤ m := by rw [hmm]; split <;> omega
    have each2 : ∀ i, i < len → ∃ x : α, w.cell? (a.add i) = some (f x) := by
      intro i hil
      obtain ⟨cs', hcs, ht⟩ := hi i (by omega)
      rw [hc, Nat.mul_one] at hcs
      obtain ⟨-, -, hcell⟩ := World.cells?_some hcs
      obtain ⟨x, rfl⟩ := each _ _ _ ht
      have := hcell 0 (by omega)
      simp only [Addr.add, if_pos, List.getElem?_cons_zero] at this
      exact ⟨x, this⟩
    obtain ⟨g, hg⟩ := choose_lt each2
    refine ⟨some a, len, cap, (List.range len).map g, by simpa using h0, by simp, by omega, .inr ⟨a, cap, by simp, by simpa using hcap, fun j u hu => ?_⟩⟩
    rw [List.getElem?_map, List.getElem?_map] at hu
    by_cases hj : j < len
    · rw [List.getElem?_range hj] at hu
      simp at hu
      rw [← hu]
      exact hg j hj
    · rw [List.getElem?_eq_none (by simpa using hj)] at hu
      simp at hu

/-- A number in a cell. -/
def C64 (x : UInt64) : Value := .int .u64 (x.toNat : Int)
def I64 (x : Int) : Value := .int .i64 x

end
end Go.Proofs.Ytlcjlgdcleenlaa

/-
  A region whose order is open: what is known of the worlds to come may grow as its calls are made. No program text here.
-/
namespace Go.Proofs.Ytlcjlgdcleenlaa

theorem wpAnyH_add {P : Program} {md : Region.Mode} {ops : Array Oper} {Q : Exit → Act → World → Prop} {S : World → Prop} (F : World → Prop) :
    ∀ (fuel : Nat) (listed : Array Bool) (a : Act) (w : World), wpAnyH P md ops Q (fun W => S W ∧ F W) fuel listed a w → wpAnyH P md ops Q S fuel listed a w
  | 0, _, _, _, h => h
  | fuel + 1, _, _, _, h => ⟨h.1, fun i hi => wpOp_mono (fun _ _ h' => ⟨h'.1.1, wpAnyH_add F fuel _ _ _ h'.2⟩) (h.2 i hi)⟩

section
variable {P : Program} {ops : Array Oper} {Q : Exit → Act → World → Prop} {md : Region.Mode} {S : World → Prop}
theorem op_at {i : Nat} {o : Oper} (h : ops.toList[i]? = some o) : ops[i]? = some o := by simpa using h
/-- The operation is found in the list itself. -/
theorem wpAnyH_pick (i : Nat) {oi : Oper} {v : Value} {fuel : Nat} {listed : Array Bool} {a : Act} {w : World} (hi : ops.toList[i]? = some oi)
    (hs : Region.noSelect ops = true) (hf : Region.free md ops listed i = true) (hr : (Region.ready md ops listed).contains i = true)
    (hQ : ∀ c a w, Q (.panic c) (a.put oi.dst v) w → Q (.panic c) a w) (hS : S w) (hg : Region.wanted oi (yielded ops a.tmps) = true) (hy : ∀ w, S w → (execOp a.eval oi).run P w = .ok (.value v) w)
    (h : wpAnyH P md ops Q S fuel (listed.setIfInBounds i true) (a.put oi.dst v) w) : wpAnyH P md ops Q S (fuel + 1) listed a w :=
  wpAnyH_take (op_at hi) hs hf hr hQ (.inl ⟨hg, hy⟩) hS h
/-- An operation behind a test that did not hold does nothing. -/
theorem wpAnyH_skip (i : Nat) {oi : Oper} {fuel : Nat} {listed : Array Bool} {a : Act} {w : World} (hi : ops.toList[i]? = some oi)
    (hs : Region.noSelect ops = true) (hf : Region.free md ops listed i = true) (hr : (Region.ready md ops listed).contains i = true)
    (hQ : ∀ c a w, Q (.panic c) (a.put oi.dst undef) w → Q (.panic c) a w) (hS : S w) (hg : Region.wanted oi (yielded ops a.tmps) = false)
    (h : wpAnyH P md ops Q S fuel (listed.setIfInBounds i true) (a.put oi.dst undef) w) : wpAnyH P md ops Q S (fuel + 1) listed a w :=
  wpAnyH_take (op_at hi) hs hf hr hQ (.inr ⟨hg, rfl⟩) hS h
theorem AllReadyH_pick {fuel : Nat} {listed : Array Bool} {a : Act} {w : World} {i : Nat} {o : Oper} {rs : List Nat} (ho : ops.toList[i]? = some o)
    (h : ∀ K' : Act → World → Prop, Shut (∀ a w, S w → (S w → wpAnyH P md ops Q S fuel (listed.setIfInBounds i true) a w) → K' a w) → if Region.wanted o (yielded ops a.tmps) = true then Oper.wp P o a w K' Q else K' (a.put o.dst undef) w)
    (hs : AllReadyH P md ops Q S fuel listed a w rs) : AllReadyH P md ops Q S fuel listed a w (i :: rs) := AllReadyH.cons (op_at ho) h hs
end
end Go.Proofs.Ytlcjlgdcleenlaa

/-
  Contracts of the document's planes: side, Right, near, shifted, At.
-/
namespace Go.Proofs.Ytlcjlgdcleenlaa
open Go.RowKit

/-- A plane as a value. -/
def PlV (w : World) (u : Value) (P : Pl) : Prop := ∃ v, u = .agg #[.int .i64 P.w, .int .i64 P.h, v] ∧ Src w v (P.pix.map B8)
def plV (W H : Int) (A : Option Addr) (n c : Nat) : Value := .agg #[.int .i64 W, .int .i64 H, .slice A n c]

theorem rside_any (n : Int) (w : World) :
    Calls Try.prog 37 #[.int .i64 n] w fun e w' => e = .returned (.bool (sideOk n)) ∧ w' = w := by
  by_cases h1 : 1 ≤ n
  · have e1 : decide (1 ≤ n) = true := by simpa using h1
    by_cases h2 : n ≤ 4096
    · have e2 : decide (n ≤ 4096) = true := by simpa using h2
      have e3 : sideOk n = true := sideOk_iff.2 ⟨h1, h2⟩
      go_enter Try.func37, Try.ntmps37
      go_wp2_with fail
      go_ret
      exact ⟨by rw [e3]; rfl, rfl⟩
    · have e2 : decide (n ≤ 4096) = false := by simpa using h2
      have e3 : sideOk n = false := by unfold sideOk; rw [e2]; simp
      go_enter Try.func37, Try.ntmps37
      go_wp2_with fail
      go_ret
      exact ⟨rfl, rfl⟩
  · have e1 : decide (1 ≤ n) = false := by simpa using h1
    have e3 : sideOk n = false := by unfold sideOk; rw [e1]; simp
    go_enter Try.func37, Try.ntmps37
    go_wp2_with fail
    go_ret
    exact ⟨rfl, rfl⟩

theorem rright_pl (W H : Int) (A : Option Addr) (c : Nat) (pix : List UInt8) (w : World) (_hn : pix.length ≤ 1000000000000) :
    Calls Try.prog 44 #[plV W H A pix.length c] w fun e w' => e = .returned (.bool (Pl.ok ⟨W, H, pix⟩)) ∧ Fr [] w w' := by
  obtain ⟨n, hnn⟩ : ∃ n, n = pix.length := ⟨_, rfl⟩
  have HW := Lib.hid fun w => rside_any W w
  have HH := Lib.hid fun w => rside_any H w
  obtain ⟨R, hR⟩ : ∃ R, R = Pl.ok ⟨W, H, pix⟩ := ⟨_, rfl⟩
  rw [← hR, ← hnn]
  rw [← hnn] at _hn
  have hR2 : R = (sideOk W && sideOk H && decide ((n : Int) = W * H)) := by rw [hR, hnn]; rfl
  have HR := Lib.hid hR2
  have hF : Fr [] w (w.alloc (.cells #[.int .i64 W, .int .i64 H, .slice A n c] 25)) := (Fr.refl _ _).alloc _
  have HF := Lib.hid hF
  clear hR hR2 hnn hF
  unfold plV
  cases h1 : sideOk W
  · rw [h1] at HW HR
    go_enter Try.func44, Try.ntmps44
    go_wp2_with fail
    refine (HW.out _).mono ?_
    rintro e w1 ⟨rfl, rfl⟩
    go_wp2_with fail
    refine (HH.out _).mono ?_
    rintro e w1 ⟨rfl, rfl⟩
    go_wp2_with fail
    go_ret
    refine ⟨?_, HF.out⟩
    rw [HR.out]
    rfl
  · cases h2 : sideOk H
    · rw [h1] at HW HR
      rw [h2] at HH HR
      go_enter Try.func44, Try.ntmps44
      go_wp2_with fail
      refine (HW.out _).mono ?_
      rintro e w1 ⟨rfl, rfl⟩
      go_wp2_with fail
      refine (HH.out _).mono ?_
      rintro e w1 ⟨rfl, rfl⟩
      go_wp2_with fail
      go_ret
      refine ⟨?_, HF.out⟩
      rw [HR.out]
      rfl
    · obtain ⟨a1, a2⟩ := sideOk_iff.1 h1
      obtain ⟨b1, b2⟩ := sideOk_iff.1 h2
      obtain ⟨W', rfl⟩ : ∃ W' : Nat, W = (W' : Int) := ⟨W.toNat, by omega⟩
      obtain ⟨H', rfl⟩ : ∃ H' : Nat, H = (H' : Int) := ⟨H.toNat, by omega⟩
      rw [h1] at HW HR
      rw [h2] at HH HR
      obtain ⟨M, hM⟩ : ∃ M, M = W' * H' := ⟨_, rfl⟩
      have hMl : M ≤ 16777216 := by rw [hM]; exact Nat.mul_le_mul (show W' ≤ 4096 by omega) (show H' ≤ 4096 by omega)
      have eM : (W' : Int) * (H' : Int) = (M : Int) := by rw [hM]; simp
      have HM := Lib.hid hM
      clear h1 h2 a1 a2 b1 b2 hM
      go_enter Try.func44, Try.ntmps44
      go_wp2_with fail
      refine (HW.out _).mono ?_
      rintro e w1 ⟨rfl, rfl⟩
      go_wp2_with fail
      refine (HH.out _).mono ?_
      rintro e w1 ⟨rfl, rfl⟩
      go_wp2_with fail
      go_ret
      refine ⟨?_, HF.out⟩
      show Ending.returned (.bool ((n : Int) == (M : Int))) = _
      rw [HR.out, eM]
      by_cases hnm : (n : Int) = (M : Int) <;> simp [hnm]

theorem rnear_any (x n : Int) (w : World) (hn : 1 ≤ n) (hn2 : n ≤ 4096) :
    Calls Try.prog 55 #[.int .i64 x, .int .i64 n] w fun e w' => e = .returned (.int .i64 (nearI x n)) ∧ w' = w := by
  obtain ⟨z, hz⟩ : ∃ z, z = nearI x n := ⟨_, rfl⟩
  rw [← hz]
  unfold nearI at hz
  by_cases h1 : x < 0
  · have e1 : decide (x < 0) = true := by simpa using h1
    rw [if_pos h1] at hz
    subst hz
    go_enter Try.func55, Try.ntmps55
    go_wp2_with fail
    go_ret
    exact ⟨rfl, rfl⟩
  · have e1 : decide (x < 0) = false := by simpa using h1
    rw [if_neg h1] at hz
    by_cases h2 : n ≤ x
    · have e2 : decide (n ≤ x) = true := by simpa using h2
      rw [if_pos h2] at hz
      have ez : n - 1 = z := hz.symm
      clear hz h1 h2
      go_enter Try.func55, Try.ntmps55
      go_wp2_with fail
      go_ret
      exact ⟨rfl, rfl⟩
    · have e2 : decide (n ≤ x) = false := by simpa using h2
      rw [if_neg h2] at hz
      subst hz
      clear h1 h2
      go_enter Try.func55, Try.ntmps55
      go_wp2_with fail
      go_ret
      exact ⟨rfl, rfl⟩

theorem rshifted_any (x i : Int) (w : World) (h1 : -9223372036854775808 ≤ x) (h2 : x ≤ 9223372036854775807) (hi : 0 ≤ i) (hi2 : i ≤ 4096) :
    Calls Try.prog 46 #[.int .i64 x, .int .i64 i] w fun e w' => e = .returned (.int .i64 (shiftI x i)) ∧ w' = w := by
  obtain ⟨z, hz⟩ : ∃ z, z = shiftI x i := ⟨_, rfl⟩
  rw [← hz]
  unfold shiftI at hz
  by_cases h3 : 4611686018427387904 < x
  · have e1 : decide (4611686018427387904 < x) = true := by simpa using h3
    rw [if_pos h3] at hz
    subst hz
    go_enter Try.func46, Try.ntmps46
    go_wp2_with fail
    go_ret
    exact ⟨rfl, rfl⟩
  · have e1 : decide (4611686018427387904 < x) = false := by simpa using h3
    rw [if_neg h3] at hz
    have ez : x + i = z := hz.symm
    have hz1 : -9223372036854775808 ≤ z := by omega
    have hz2 : z ≤ 9223372036854775807 := by omega
    clear hz h3 h1 h2
    go_enter Try.func46, Try.ntmps46
    go_wp2_with fail
    go_ret
    exact ⟨rfl, rfl⟩

set_option maxRecDepth 20000 in
theorem rat_pl (W H : Int) (A : Option Addr) (c : Nat) (pix : List UInt8) (x y : Int) (w : World) (hs : Src w (.slice A pix.length c) (pix.map B8)) (hn : pix.length ≤ 1000000000000) :
    Calls Try.prog 48 #[plV W H A pix.length c, .int .i64 x, .int .i64 y] w fun e w' => e = .returned (B8 (Pl.at_ ⟨W, H, pix⟩ x y)) ∧ Fr [] w w' := by
  have HR := Lib.hid fun w => rright_pl W H A c pix w hn
  obtain ⟨s, hs0⟩ : ∃ s, s = Pl.at_ ⟨W, H, pix⟩ x y := ⟨_, rfl⟩
  rw [← hs0]
  cases hok : Pl.ok ⟨W, H, pix⟩
  · rw [hok] at HR
    obtain rfl : s = 0 := by rw [hs0]; unfold Pl.at_; rw [hok]; rfl
    have hF : Fr [] w (w.alloc (.cells #[.int .i64 W, .int .i64 H, .slice A pix.length c] 25)) := (Fr.refl _ _).alloc _
    have HF := Lib.hid hF
    clear hs0 hF hok hs
    unfold plV at HR ⊢
    go_enter Try.func48, Try.ntmps48
    go_wp2_with fail
    refine (HR.out _).mono ?_
    rintro e w1 ⟨rfl, hF1⟩
    have HF1 := Lib.hid (HF.out.trans hF1 (by simp))
    clear hF1
    go_wp2_with fail
    go_ret
    exact ⟨rfl, HF1.out⟩
  · rw [hok] at HR
    obtain ⟨k, hk, hkl⟩ := near_idx (P := ⟨W, H, pix⟩) hok x y
    simp only at hk hkl
    have hsk : s = pix.getD k 0 := by
      rw [hs0]
      unfold Pl.at_ Pl.smp
      rw [hok]
      simp only [if_true]
      rw [hk]
      simp
    obtain ⟨⟨a1, a2⟩, ⟨b1, b2⟩, hl⟩ := Pl.ok_iff.1 hok
    simp only at a1 a2 b1 b2 hl
    have hx : pix[k]? = some s := by rw [hsk, List.getD_eq_getElem?_getD, List.getElem?_eq_getElem hkl]; rfl
    obtain ⟨n, hnn⟩ : ∃ n, n = pix.length := ⟨_, rfl⟩
    rw [← hnn] at hs hn hkl HR ⊢
    obtain ⟨NX, hNX⟩ : ∃ NX, NX = nearI x W := ⟨_, rfl⟩
    obtain ⟨NY, hNY⟩ : ∃ NY, NY = nearI y H := ⟨_, rfl⟩
    have HX := Lib.hid fun w => rnear_any x W w a1 a2
    have HY := Lib.hid fun w => rnear_any y H w b1 b2
    obtain ⟨n1, n2⟩ := nearI_range x a1
    obtain ⟨n3, n4⟩ := nearI_range y b1
    rw [← hNX] at HX n1 n2 hk
    rw [← hNY] at HY n3 n4 hk
    obtain ⟨M, hM⟩ : ∃ M, M = NY * W := ⟨_, rfl⟩
    rw [← hM] at hk
    have eM : NY * W = M := hM.symm
    have hMl : 0 ≤ M ∧ M ≤ 16777216 := by
      rw [hM]
      refine ⟨Int.mul_nonneg n3 (by omega), ?_⟩
      exact Int.le_trans (Int.mul_le_mul_of_nonneg_right (show NY ≤ 4096 by omega) (by omega)) (by omega)
    have hM1 := hMl.1
    have hM2 := hMl.2
    have hk2 : k ≤ 16782336 := by omega
    have ek : M + NX = (k : Int) := hk
    have v1 : IntKind.i64.wrap M = M := IntWalk.i64_in _ (by omega)
    have v2 : IntKind.i64.wrap (k : Int) = (k : Int) := IntWalk.i64_in _ (by omega)
    obtain ⟨ad, rfl, hcell⟩ := hs.cellAt hx
    have hcell : w.cell? (ad.add k) = some (.int .u8 (s.toNat : Int)) := hcell
    have hB := Blk.new w 25 #[.int .i64 W, .int .i64 H, .slice (some ad) n c]
    have hF : Fr [] w (w.alloc (.cells #[.int .i64 W, .int .i64 H, .slice (some ad) n c] 25)) := (Fr.refl _ _).alloc _
    have HB := Lib.hid hB; have HF := Lib.hid hF; have Hcell := Lib.hid hcell
    clear hs0 hok hs hsk hl hx hnn hNX hNY hM hk hMl hB hF hcell
    unfold plV at HR ⊢
    go_enter Try.func48, Try.ntmps48
    go_wp2_with fail
    refine (HR.out _).mono ?_
    rintro e w1 ⟨rfl, hF1⟩
    have hB1 := (HB.out.fr hF1 (by simp)).drew
    obtain ⟨g, hg⟩ : ∃ g, g = w.heap.size := ⟨_, rfl⟩
    rw [← hg] at hB1 ⊢
    have c0 := hB1.cell 0
    have c1 := hB1.cell 1
    have c2 := hB1.cell 2
    simp at c0 c1 c2
    have hF2 := (HF.out.trans hF1 (by simp)).drew
    have cx : w1.drew.cell? (ad.add k) = some (.int .u8 (s.toNat : Int)) := (hF2.cell (World.block_lt_of_cell? w _ Hcell.out) (by simp)).trans Hcell.out
    have HF2 := Lib.hid hF2
    clear hF1 hB1 hF2 HB HF Hcell hg
    go_upto_region 4 with fail
    refine wp_region_held_drew (S := fun W' => W'.cell? ⟨g, 0, none⟩ = some (.int .i64 W) ∧ W'.cell? ⟨g, 1, none⟩ = some (.int .i64 H) ∧ W'.cell? ⟨g, 2, none⟩ = some (.slice (some ad) n c) ∧ W'.cell? (ad.add k) = some (.int .u8 (s.toNat : Int))) (by kernel_rfl) ?_ (fun hHeld => ?_)
    · (repeat' (first | trivial | assumption | refine ⟨?_, ?_⟩))
    refine wpAnyH_pick 0 (v := ?_) rfl (by kernel_rfl) (by kernel_rfl) (by kernel_rfl) (fun _ _ _ h => h) (by assumption) (by rfl) ?_ ?_
    rotate_left
    · (intro w hSw; (try dsimp only at hSw); go_simp) <;> (with_reducible rfl)
    (try simp only [Act.put, List.setIfInBounds_toArray, List.set_cons_zero, List.set_cons_succ])
    refine wpAnyH_pick 1 (v := ?_) rfl (by kernel_rfl) (by kernel_rfl) (by kernel_rfl) (fun _ _ _ h => h) (by assumption) (by rfl) ?_ ?_
    rotate_left
    · (intro w hSw; (try dsimp only at hSw); go_simp) <;> (with_reducible rfl)
    (try simp only [Act.put, List.setIfInBounds_toArray, List.set_cons_zero, List.set_cons_succ])
    refine wpAnyH_pick 2 (v := ?_) rfl (by kernel_rfl) (by kernel_rfl) (by kernel_rfl) (fun _ _ _ h => h) (by assumption) (by rfl) ?_ ?_
    rotate_left
    · (intro w hSw; (try dsimp only at hSw); go_simp) <;> (with_reducible rfl)
    (try simp only [Act.put, List.setIfInBounds_toArray, List.set_cons_zero, List.set_cons_succ])
    refine wpAnyH_pick 3 (v := ?_) rfl (by kernel_rfl) (by kernel_rfl) (by kernel_rfl) (fun _ _ _ h => h) (by assumption) (by rfl) ?_ ?_
    rotate_left
    · (intro w hSw; (try dsimp only at hSw); go_simp) <;> (with_reducible rfl)
    (try simp only [Act.put, List.setIfInBounds_toArray, List.set_cons_zero, List.set_cons_succ])
    refine wpAnyH_pick 4 (v := ?_) rfl (by kernel_rfl) (by kernel_rfl) (by kernel_rfl) (fun _ _ _ h => h) (by assumption) (by rfl) ?_ ?_
    rotate_left
    · (intro w hSw; (try dsimp only at hSw); go_simp) <;> (with_reducible rfl)
    (try simp only [Act.put, List.setIfInBounds_toArray, List.set_cons_zero, List.set_cons_succ])
    refine wpAnyH_pick 6 (v := ?_) rfl (by kernel_rfl) (by kernel_rfl) (by kernel_rfl) (fun _ _ _ h => h) (by assumption) (by rfl) ?_ ?_
    rotate_left
    · (intro w hSw; (try dsimp only at hSw); go_simp) <;> (with_reducible rfl)
    (try simp only [Act.put, List.setIfInBounds_toArray, List.set_cons_zero, List.set_cons_succ])
    refine wpAnyH_pick 7 (v := ?_) rfl (by kernel_rfl) (by kernel_rfl) (by kernel_rfl) (fun _ _ _ h => h) (by assumption) (by rfl) ?_ ?_
    rotate_left
    · (intro w hSw; (try dsimp only at hSw); go_simp) <;> (with_reducible rfl)
    (try simp only [Act.put, List.setIfInBounds_toArray, List.set_cons_zero, List.set_cons_succ])
    refine wpAnyH_pick 9 (v := ?_) rfl (by kernel_rfl) (by kernel_rfl) (by kernel_rfl) (fun _ _ _ h => h) (by assumption) (by rfl) ?_ ?_
    rotate_left
    · (intro w hSw; (try dsimp only at hSw); go_simp) <;> (with_reducible rfl)
    (try simp only [Act.put, List.setIfInBounds_toArray, List.set_cons_zero, List.set_cons_succ])
    refine wpAnyH_pick 10 (v := ?_) rfl (by kernel_rfl) (by kernel_rfl) (by kernel_rfl) (fun _ _ _ h => h) (by assumption) (by rfl) ?_ ?_
    rotate_left
    · (intro w hSw; (try dsimp only at hSw); go_simp) <;> (with_reducible rfl)
    (try simp only [Act.put, List.setIfInBounds_toArray, List.set_cons_zero, List.set_cons_succ])
    refine wpAnyH_pick 11 (v := ?_) rfl (by kernel_rfl) (by kernel_rfl) (by kernel_rfl) (fun _ _ _ h => h) (by assumption) (by rfl) ?_ ?_
    rotate_left
    · (intro w hSw; (try dsimp only at hSw); go_simp) <;> (with_reducible rfl)
    (try simp only [Act.put, List.setIfInBounds_toArray, List.set_cons_zero, List.set_cons_succ])
    refine wpAnyH_ready (rs := [5]) (by kernel_rfl) (by simp) ?_
    refine AllReadyH_pick rfl (fun K hK => ?_) (AllReadyH.nil)
    go_simp
    refine (HY.out _).mono ?_
    rintro e w2 ⟨rfl, rfl⟩
    go_wp2_with fail
    refine hK.out _ _ ?_ (fun hHeld => ?_)
    · (repeat' (first | trivial | assumption | refine ⟨?_, ?_⟩))
    clear hK K
    (try simp only [Act.put, List.setIfInBounds_toArray, List.set_cons_zero, List.set_cons_succ])
    refine wpAnyH_pick 8 (v := ?_) rfl (by kernel_rfl) (by kernel_rfl) (by kernel_rfl) (fun _ _ _ h => h) (by assumption) (by rfl) ?_ ?_
    rotate_left
    · (intro w hSw; (try dsimp only at hSw); go_simp) <;> (with_reducible rfl)
    (try simp only [Act.put, List.setIfInBounds_toArray, List.set_cons_zero, List.set_cons_succ])
    refine wpAnyH_ready (rs := [12]) (by kernel_rfl) (by simp) ?_
    refine AllReadyH_pick rfl (fun K hK => ?_) (AllReadyH.nil)
    go_simp
    refine (HX.out _).mono ?_
    rintro e w2 ⟨rfl, rfl⟩
    go_wp2_with fail
    refine hK.out _ _ ?_ (fun hHeld => ?_)
    · (repeat' (first | trivial | assumption | refine ⟨?_, ?_⟩))
    clear hK K
    (try simp only [Act.put, List.setIfInBounds_toArray, List.set_cons_zero, List.set_cons_succ])
    refine wpAnyH_pick 13 (v := ?_) rfl (by kernel_rfl) (by kernel_rfl) (by kernel_rfl) (fun _ _ _ h => h) (by assumption) (by rfl) ?_ ?_
    rotate_left
    · (intro w hSw; (try dsimp only at hSw); go_simp) <;> (with_reducible rfl)
    (try simp only [Act.put, List.setIfInBounds_toArray, List.set_cons_zero, List.set_cons_succ])
    refine wpAnyH_pick 14 (v := ?_) rfl (by kernel_rfl) (by kernel_rfl) (by kernel_rfl) (fun _ _ _ h => h) (by assumption) (by rfl) ?_ ?_
    rotate_left
    · (intro w hSw; (try dsimp only at hSw); go_simp) <;> (with_reducible rfl)
    (try simp only [Act.put, List.setIfInBounds_toArray, List.set_cons_zero, List.set_cons_succ])
    refine wpAnyH_pick 15 (v := ?_) rfl (by kernel_rfl) (by kernel_rfl) (by kernel_rfl) (fun _ _ _ h => h) (by assumption) (by rfl) ?_ ?_
    rotate_left
    · (intro w hSw; (try dsimp only at hSw); go_simp) <;> (with_reducible rfl)
    (try simp only [Act.put, List.setIfInBounds_toArray, List.set_cons_zero, List.set_cons_succ])
    refine wpAnyH_pick 16 (v := ?_) rfl (by kernel_rfl) (by kernel_rfl) (by kernel_rfl) (fun _ _ _ h => h) (by assumption) (by rfl) ?_ ?_
    rotate_left
    · (intro w hSw; (try dsimp only at hSw); go_simp) <;> (with_reducible rfl)
    (try simp only [Act.put, List.setIfInBounds_toArray, List.set_cons_zero, List.set_cons_succ])
    refine wpAnyH_done (by kernel_rfl) ?_ _
    skip
    go_wp2_with fail
    go_ret
    exact ⟨rfl, HF2.out⟩
end Go.Proofs.Ytlcjlgdcleenlaa

/-
  Contracts of the document's planes: Far.
-/
namespace Go.Proofs.Ytlcjlgdcleenlaa
open Go.RowKit

theorem far_not {P Q : Pl} (h : ¬ (P.ok = true ∧ Q.ok = true ∧ P.w = Q.w ∧ P.h = Q.h)) : P.far Q = (0, 61) := by
  unfold Pl.far
  rw [if_neg]
  simp only [Bool.and_eq_true, decide_eq_true_eq]
  exact fun k => h ⟨k.1.1.1, k.1.1.2, k.1.2, k.2⟩
theorem far_ok {P Q : Pl} (h : P.ok = true ∧ Q.ok = true ∧ P.w = Q.w ∧ P.h = Q.h) : P.far Q = ((gaps P.pix Q.pix : Int), 0) := by
  unfold Pl.far
  rw [if_pos]
  simp only [Bool.and_eq_true, decide_eq_true_eq]
  exact ⟨⟨⟨h.1, h.2.1⟩, h.2.2.1⟩, h.2.2.2⟩

/-- Two boxes of planes. -/
structure Box2 (w w1 : World) (g r : Nat) (cs ds : Array Value) : Prop where
  fr : Fr [] w w1
  bg : Blk w1 g 25 cs
  br : Blk w1 r 25 ds
theorem box2 (w : World) (cs ds : Array Value) : Box2 w ((w.alloc (.cells cs 25)).alloc (.cells ds 25)) w.heap.size (w.heap.size + 1) cs ds := by
  refine ⟨((Fr.refl _ _).alloc _).alloc _, (Blk.new w 25 cs).alloc _, ?_⟩
  have := Blk.new (w.alloc (.cells cs 25)) 25 ds
  rw [World.size_alloc] at this
  exact this
theorem Box2.fr0 {w w1 w2 : World} {g r : Nat} {cs ds : Array Value} (h : Box2 w w1 g r cs ds) (hf : Fr [] w1 w2) : Box2 w w2 g r cs ds :=
  ⟨h.fr.trans hf (by simp), h.bg.fr hf (by simp), h.br.fr hf (by simp)⟩

set_option maxRecDepth 20000 in
set_option maxHeartbeats 4000000 in
theorem rfar_any (W H : Int) (A : Option Addr) (c : Nat) (px : List UInt8) (W' H' : Int) (A' : Option Addr) (c' : Nat) (py : List UInt8) (w : World)
    (hs : Src w (.slice A px.length c) (px.map B8)) (hs' : Src w (.slice A' py.length c') (py.map B8)) (hn : px.length ≤ 1000000000000) (hn' : py.length ≤ 1000000000000) :
    Calls Try.prog 24 #[plV W H A px.length c, plV W' H' A' py.length c'] w fun e w' => e = .returned (.tuple #[.int .i64 (Pl.far ⟨W, H, px⟩ ⟨W', H', py⟩).1, .int .i64 (Pl.far ⟨W, H, px⟩ ⟨W', H', py⟩).2]) ∧ Fr [] w w' := by
  have HR := Lib.hid fun w => rright_pl W H A c px w hn
  have HR' := Lib.hid fun w => rright_pl W' H' A' c' py w hn'
  obtain ⟨R, hR⟩ : ∃ R, R = Pl.ok ⟨W, H, px⟩ := ⟨_, rfl⟩
  obtain ⟨R', hR'⟩ : ∃ R', R' = Pl.ok ⟨W', H', py⟩ := ⟨_, rfl⟩
  rw [← hR] at HR
  rw [← hR'] at HR'
  obtain ⟨F, hF⟩ : ∃ F, F = Pl.far ⟨W, H, px⟩ ⟨W', H', py⟩ := ⟨_, rfl⟩
  rw [← hF]
  have hcase : (R = false ∧ F = (0, 61)) ∨ (R = true ∧ R' = false ∧ F = (0, 61)) ∨ (R = true ∧ R' = true ∧ W ≠ W' ∧ F = (0, 61)) ∨ (R = true ∧ R' = true ∧ W = W' ∧ H ≠ H' ∧ F = (0, 61)) ∨ (R = true ∧ R' = true ∧ W = W' ∧ H = H' ∧ F = ((gaps px py : Int), 0)) := by
    by_cases h1 : R = true
    · by_cases h2 : R' = true
      · by_cases h3 : W = W'
        · by_cases h4 : H = H'
          · exact .inr (.inr (.inr (.inr ⟨h1, h2, h3, h4, by rw [hF]; exact far_ok ⟨by rw [← hR, h1], by rw [← hR', h2], h3, h4⟩⟩)))
          · exact .inr (.inr (.inr (.inl ⟨h1, h2, h3, h4, by rw [hF]; exact far_not fun k => h4 k.2.2.2⟩)))
        · exact .inr (.inr (.inl ⟨h1, h2, h3, by rw [hF]; exact far_not fun k => h3 k.2.2.1⟩))
      · exact .inr (.inl ⟨h1, by simpa using h2, by rw [hF]; exact far_not fun k => h2 (by rw [hR']; exact k.2.1)⟩)
    · exact .inl ⟨by simpa using h1, by rw [hF]; exact far_not fun k => h1 (by rw [hR]; exact k.1)⟩
  have hlen : R = true → R' = true → W = W' → H = H' → px.length = py.length ∧ px.length ≤ 16777216 := by
    rintro h1 h2 rfl rfl
    have k1 := (Pl.ok_iff.1 (hR.symm.trans h1))
    have k2 := (Pl.ok_iff.1 (hR'.symm.trans h2))
    simp only at k1 k2
    obtain ⟨⟨a1, a2⟩, ⟨b1, b2⟩, hl⟩ := k1
    have hl2 := k2.2.2
    have : W * H ≤ 4096 * 4096 := Int.mul_le_mul a2 b2 (by omega) (by omega)
    omega
  have hT := box2 w #[.int .i64 W, .int .i64 H, .slice A px.length c] #[.int .i64 W', .int .i64 H', .slice A' py.length c']
  have HT := Lib.hid hT; have Hlen := Lib.hid hlen; have HS := Lib.hid hs; have HS' := Lib.hid hs'
  obtain ⟨n, hnn⟩ : ∃ n, n = px.length := ⟨_, rfl⟩
  obtain ⟨n', hnn'⟩ : ∃ n', n' = py.length := ⟨_, rfl⟩
  have Hnn := Lib.hid hnn; have Hnn' := Lib.hid hnn'
  rw [← hnn] at HR HT Hlen HS ⊢
  rw [← hnn'] at HR' HT Hlen HS' ⊢
  clear hR hR' hF hT hlen hs hs' hnn hnn' hn hn'
  unfold plV at HR HR' ⊢
  rcases hcase with ⟨rfl, rfl⟩ | ⟨rfl, rfl, rfl⟩ | ⟨rfl, rfl, h3, rfl⟩ | ⟨rfl, rfl, rfl, h4, rfl⟩ | ⟨rfl, rfl, rfl, rfl, rfl⟩
  case' inr.inr.inl =>
    have t3 : (W != W') = true := by simpa using h3
    clear h3
  case' inr.inr.inr.inl =>
    have t3 : (W != W) = false := by simp
    have t4 : (H != H') = true := by simpa using h4
    clear h4
  case' inr.inr.inr.inr =>
    have t3 : (W != W) = false := by simp
    have t4 : (H != H) = false := by simp
  all_goals
    go_enter Try.func24, Try.ntmps24
    go_upto_region 1 with fail
    generalize World.alloc (World.alloc w _) _ = w1 at HT ⊢
    obtain ⟨g, hg⟩ : ∃ g, g = w.heap.size := ⟨_, rfl⟩
    rw [← hg] at HT ⊢
    obtain ⟨r, hr⟩ : ∃ r, r = g + 1 := ⟨_, rfl⟩
    rw [← hr] at HT ⊢
    clear hg hr
    have c0 := HT.out.bg.cell 0
    have c1 := HT.out.bg.cell 1
    have c2 := HT.out.bg.cell 2
    have hlg := HT.out.bg.lt
    simp at c0 c1 c2
    go_wp2_with fail
    refine (HR.out _).mono ?_
    rintro e w2 ⟨rfl, hF2⟩
    have HT2 := Lib.hid (HT.out.fr0 hF2)
    clear hF2 c0 c1 c2 hlg HT
    have c0 := HT2.out.br.cell 0
    have c1 := HT2.out.br.cell 1
    have c2 := HT2.out.br.cell 2
    have hlg := HT2.out.br.lt
    simp at c0 c1 c2
    go_wp2_with fail
    refine (HR'.out _).mono ?_
    rintro e w3 ⟨rfl, hF3⟩
    have HT3 := Lib.hid (HT2.out.fr0 hF3)
    clear hF3 c0 c1 c2 hlg HT2
    have c0 := HT3.out.bg.cell 0
    have c1 := HT3.out.bg.cell 1
    have hlg := HT3.out.bg.lt
    have d0 := HT3.out.br.cell 0
    have d1 := HT3.out.br.cell 1
    have hlr := HT3.out.br.lt
    simp at c0 c1 d0 d1
    go_wp2_with fail
  all_goals try (go_ret2; exact ⟨rfl, HT3.out.fr⟩)
  obtain ⟨hl1, hl2⟩ := Hlen.out trivial trivial trivial trivial
  obtain rfl : n' = n := hl1.symm
  clear c0 c1 d0 d1 hlg hlr hl1 Hlen HR HR'
  go_loopw [8, 9] (fun s8 s9 wr => ∃ i : Nat, i ≤ n' ∧ s9 = .int .i64 (i : Int) ∧ s8 = .int .i64 (gaps (px.take i) (py.take i) : Int) ∧ Box2 w wr g r #[.int .i64 W, .int .i64 H, .slice A n' c] #[.int .i64 W, .int .i64 H, .slice A' n' c']) (fun _ s9 _ => n' - (intOf s9).toNat)
  case atStart => exact ⟨0, by omega, rfl, rfl, HT3.out⟩
  case round =>
    obtain ⟨i, hi, rfl, rfl, hT⟩ := hrel
    by_cases hlt : i < n'
    · have eg : decide (i < n') = true := by simpa using hlt
      obtain ⟨u, hu⟩ : ∃ u, px[i]? = some u := ⟨_, List.getElem?_eq_getElem (by have := Hnn.out; omega)⟩
      obtain ⟨v, hv⟩ : ∃ v, py[i]? = some v := ⟨_, List.getElem?_eq_getElem (by have := Hnn'.out; omega)⟩
      have hstep := gaps_snoc px py i hu hv
      obtain ⟨S, hS⟩ : ∃ S, S = gaps (px.take i) (py.take i) := ⟨_, rfl⟩
      have hSl : S ≤ 4294967296 := by
        have := gaps_le (px.take i) (py.take i)
        rw [← hS] at this
        simp at this
        omega
      rw [← hS] at hstep ⊢
      have hgl := gap_le u v
      obtain ⟨G, hG⟩ : ∃ G, G = gap u v := ⟨_, rfl⟩
      rw [← hG] at hstep hgl
      have hul := u.toNat_lt
      have hvl := v.toNat_lt
      obtain ⟨d, hd⟩ : ∃ d : Int, d = (u.toNat : Int) - (v.toNat : Int) := ⟨_, rfl⟩
      have ed : (u.toNat : Int) - (v.toNat : Int) = d := hd.symm
      have hGd : (G : Int) = max d (-d) := by rw [hG, hd]; unfold gap; omega
      have hd1 : -255 ≤ d := by omega
      have hd2 : d ≤ 255 := by omega
      have vu : IntKind.i64.wrap (u.toNat : Int) = (u.toNat : Int) := IntWalk.i64_in _ (by omega)
      have vv : IntKind.i64.wrap (v.toNat : Int) = (v.toNat : Int) := IntWalk.i64_in _ (by omega)
      have vd : IntKind.i64.wrap d = d := IntWalk.i64_in _ (by omega)
      obtain ⟨ad, rfl, k1'⟩ := (HS.out.fr0 hT.fr).cellAt hu
      obtain ⟨ad', rfl, k2'⟩ := (HS'.out.fr0 hT.fr).cellAt hv
      have k1 : wr.cell? (ad.add i) = some (.int .u8 (u.toNat : Int)) := k1'
      have k2 : wr.cell? (ad'.add i) = some (.int .u8 (v.toNat : Int)) := k2'
      clear k1' k2'
      have c2 := hT.bg.cell 2
      have d2 := hT.br.cell 2
      have hlg := hT.bg.lt
      have hlr := hT.br.lt
      simp at c2 d2
      have HTr := Lib.hid hT; have Hstep := Lib.hid hstep; have HGd := Lib.hid hGd
      clear hT hstep hGd hS hG hd hu hv HT3
      go_upto_region 9 with fail
      go_quiet (fail)
      have hT2 := HTr.out.fr0 ((Fr.refl [] wr).drewN nq)
      have HT2 := Lib.hid hT2
      clear hT2
      go_wp2_with fail
      all_goals
        refine ⟨⟨i + 1, by omega, by simp, ?_, HT2.out⟩, by simp [intOf]; omega⟩
        rw [Hstep.out]
        have := HGd.out
        first
          | (refine congrArg (fun z => Value.int .i64 z) ?_; omega)
          | (exfalso; simp_all <;> omega)
    · have eg : decide (i < n') = false := by simpa using hlt
      have hin : i = n' := by omega
      have hT2 := hT
      have c2 := hT.bg.cell 2
      have hlg := hT.bg.lt
      simp at c2
      have HT2 := Lib.hid hT2
      obtain ⟨S, hS⟩ : ∃ S, S = gaps (px.take i) (py.take i) := ⟨_, rfl⟩
      have hSe : S = gaps px py := by rw [hS, hin, List.take_of_length_le (by have := Hnn.out; omega), List.take_of_length_le (by have := Hnn'.out; omega)]
      rw [← hS]
      have HSe := Lib.hid hSe
      clear hT hT2 hin hS hSe HT3
      go_wp2_with fail
      go_ret2
      exact ⟨by rw [← HSe.out]; rfl, HT2.out.fr⟩
end Go.Proofs.Ytlcjlgdcleenlaa

/-
  A function's results of which the first lies in memory as a whole block. No program text here.
-/
namespace Go.Proofs.Ytlcjlgdcleenlaa
open Go.RowKit

theorem results_row_tmp {P : Program} {fn : Func} {p u : Tmp} {ty : TypeId} (h : fn.results = #[.cell p ty, .tmp u]) (tmps : Array Value) (w : World) (g : Nat) (t : TypeId) (cs : Array Value) (fr : Nat × Nat) (d : TypeDesc)
    (hp : tmps.getD p undef = .pointer (some ⟨g, 0, none⟩)) (hg : w.heap[g]? = some (.cells cs t fr))
    (hu : P.underlying ty = some d) (hd : (match d with | .struct _ | .array _ _ => true | _ => false) = true) (hi : (P.info? ty).map (·.size) = some cs.size) :
    (results fn tmps).run P w = .ok (.tuple #[.agg cs, tmps.getD u undef]) w := by
  rw [results_cell_tmp h, hp]
  simp [asAddr, Result.andThen, run_loadVar_row w g t ty cs fr d hg hu hd hi]
end Go.Proofs.Ytlcjlgdcleenlaa

/-
  Contracts of the document's planes: New, Copy.
-/
namespace Go.Proofs.Ytlcjlgdcleenlaa
open Go.RowKit

/-- A plane whose samples lie in memory that is new since w0. -/
def PlMine (w0 w : World) (u : Value) (P : Pl) : Prop := ∃ A c, u = plV P.w P.h A P.pix.length c ∧ Mine w0 w (.slice A P.pix.length c) P.pix
theorem PlMine.fr0 {w0 w w' : World} {u : Value} {P : Pl} (h : PlMine w0 w u P) (hf : Fr [] w w') : PlMine w0 w' u P := by
  obtain ⟨A, c, rfl, hM⟩ := h
  exact ⟨A, c, rfl, hM.fr0 hf⟩
theorem PlMine.fr {w0 w : World} {u : Value} {P : Pl} (h : PlMine w0 w u P) : Fr [] w0 w := by
  obtain ⟨A, c, rfl, hM⟩ := h
  exact hM.fr
theorem plNone_mine {w0 w : World} (hf : Fr [] w0 w) : PlMine w0 w (plV 0 0 none 0 0) plNone := ⟨none, 0, rfl, ⟨Own.nil _ _, hf, by simp [Value.ownBlock]⟩⟩

theorem all_replicate {xs : List UInt8} {n : Nat} {v : UInt8} (hl : xs.length = n) (h : ∀ j, j < n → xs[j]? = some v) : xs = List.replicate n v := by
  apply List.ext_getElem?
  intro j
  by_cases hj : j < n
  · rw [h j hj, List.getElem?_replicate, if_pos hj]
  · rw [List.getElem?_eq_none (by omega), List.getElem?_eq_none (by simp; omega)]

set_option maxRecDepth 20000 in
set_option maxHeartbeats 4000000 in
theorem rnewP_any (W H : Int) (v : UInt8) (w : World) :
    Calls Try.prog 12 #[.int .i64 W, .int .i64 H, B8 v] w fun e w' => ∃ u, e = .returned (.tuple #[u, .int .i64 (plNew W H v).2]) ∧ PlMine w w' u (plNew W H v).1 := by
  show Calls Try.prog 12 #[.int .i64 W, .int .i64 H, .int .u8 (v.toNat : Int)] w _
  have HW := Lib.hid fun w => rside_any W w
  have HH := Lib.hid fun w => rside_any H w
  have hF : Fr [] w (w.alloc (.cells #[.int .i64 0, .int .i64 0, .slice none 0 0] 25)) := (Fr.refl _ _).alloc _
  have hB := Blk.new w 25 #[.int .i64 0, .int .i64 0, .slice none 0 0]
  have HF := Lib.hid hF; have HB := Lib.hid hB
  clear hF hB
  cases h1 : sideOk W
  · rw [h1] at HW
    have hres : plNew W H v = (plNone, 61) := by unfold plNew; rw [h1]; rfl
    rw [hres]
    clear hres h1
    go_enter Try.func12, Try.ntmps12
    go_wp2_with fail
    refine (HW.out _).mono ?_
    rintro e w1 ⟨rfl, rfl⟩
    go_wp2_with fail
    refine (HH.out _).mono ?_
    rintro e w1 ⟨rfl, rfl⟩
    go_wp2_with fail
    refine bodyPost_ret (v := .tuple #[plV 0 0 none 0 0, .int .i64 61]) (results_row_tmp Try.results12 _ _ w.heap.size 25 _ (0, 0) _ rfl HB.out.here Try.underlying25 rfl (by kernel_rfl)) rfl ⟨_, rfl, plNone_mine HF.out⟩
  · cases h2 : sideOk H
    · rw [h1] at HW
      rw [h2] at HH
      have hres : plNew W H v = (plNone, 61) := by unfold plNew; rw [h1, h2]; rfl
      rw [hres]
      clear hres h1 h2
      go_enter Try.func12, Try.ntmps12
      go_wp2_with fail
      refine (HW.out _).mono ?_
      rintro e w1 ⟨rfl, rfl⟩
      go_wp2_with fail
      refine (HH.out _).mono ?_
      rintro e w1 ⟨rfl, rfl⟩
      go_wp2_with fail
      refine bodyPost_ret (v := .tuple #[plV 0 0 none 0 0, .int .i64 61]) (results_row_tmp Try.results12 _ _ w.heap.size 25 _ (0, 0) _ rfl HB.out.here Try.underlying25 rfl (by kernel_rfl)) rfl ⟨_, rfl, plNone_mine HF.out⟩
    · obtain ⟨a1, a2⟩ := sideOk_iff.1 h1
      obtain ⟨b1, b2⟩ := sideOk_iff.1 h2
      obtain ⟨W', rfl⟩ : ∃ W' : Nat, W = (W' : Int) := ⟨W.toNat, by omega⟩
      obtain ⟨H', rfl⟩ : ∃ H' : Nat, H = (H' : Int) := ⟨H.toNat, by omega⟩
      rw [h1] at HW
      rw [h2] at HH
      have hres : plNew (W' : Int) (H' : Int) v = (⟨W', H', List.replicate (W' * H') v⟩, 0) := by unfold plNew; rw [h1, h2]; simp
      rw [hres]
      obtain ⟨M, hM⟩ : ∃ M, M = W' * H' := ⟨_, rfl⟩
      have hMl : M ≤ 16777216 := by rw [hM]; exact Nat.mul_le_mul (show W' ≤ 4096 by omega) (show H' ≤ 4096 by omega)
      have eM : (W' : Int) * (H' : Int) = (M : Int) := by rw [hM]; simp
      rw [← hM]
      have ew : IntKind.i64.wrap (M : Int) = (M : Int) := IntWalk.i64_in _ (by omega)
      obtain ⟨i0, hi0, hz0, hs0, hb0⟩ := info_parts info_u8
      clear hres h1 h2 hM
      go_enter Try.func12, Try.ntmps12
      go_wp2_with fail
      refine (HW.out _).mono ?_
      rintro e w1 ⟨rfl, rfl⟩
      go_wp2_with fail
      refine (HH.out _).mono ?_
      rintro e w1 ⟨rfl, rfl⟩
      obtain ⟨g, hg⟩ : ∃ g, g = w.heap.size := ⟨_, rfl⟩
      generalize hw1 : w.alloc (.cells #[.int .i64 0, .int .i64 0, .slice none 0 0] 25) = w1 at HF HB ⊢
      rw [← hg] at HB ⊢
      have Hg := Lib.hid hg
      clear hg hw1
      go_wp2_with (at_make; refine wpList_make_mine _ _ 23 5 i0 _ 1 _ _ M rfl rfl Try.underlying23 hi0 hz0 hs0 hb0 rfl rfl rfl (by omega) (by simp only [maxLen]; omega) ?_)
      intro w2 hO hF hlt
      obtain ⟨x, hx⟩ : ∃ x, x = w1.heap.size := ⟨_, rfl⟩
      rw [← hx] at hO ⊢
      have hgx : g < x := by have := HB.out.lt; omega
      have hm2 : Mine w w2 (.slice (some ⟨x, 0, none⟩) M M) (List.replicate M 0) := by
        refine ⟨?_, HF.out.trans hF (by simp), fun k hk => ?_⟩
        · rw [List.map_replicate]; exact hO
        · have : x = k := by simpa [Value.ownBlock] using hk
          have := HF.out.size
          omega
      have HM2 := Lib.hid hm2; have HB2 := Lib.hid (HB.out.fr hF (by simp)); have Hgx := Lib.hid (And.intro hgx (show x < w2.heap.size by omega))
      clear hO hF hlt hx hgx hm2 HB HF
      go_upto_region 6 with fail
      have hm3 := HM2.out.fr0 ((Fr.refl [] w2).alloc (.cells #[.int .i64 (W' : Int), .int .i64 (H' : Int), .slice (some ⟨x, 0, none⟩) M M] 25))
      have hb3 := HB2.out.alloc (.cells #[.int .i64 (W' : Int), .int .i64 (H' : Int), .slice (some ⟨x, 0, none⟩) M M] 25)
      have hq3 := Blk.new w2 25 #[.int .i64 (W' : Int), .int .i64 (H' : Int), .slice (some ⟨x, 0, none⟩) M M]
      obtain ⟨q, hq⟩ : ∃ q, q = w2.heap.size := ⟨_, rfl⟩
      rw [← hq] at hq3 ⊢
      generalize w2.alloc _ = w3 at hm3 hb3 hq3 ⊢
      have HM3 := Lib.hid hm3; have HB3 := Lib.hid hb3; have HQ3 := Lib.hid hq3
      have Hxq := Lib.hid (show x < q by have := Hgx.out; omega)
      clear hm3 hb3 hq3 hq HM2 HB2
      go_wp2_with fail
      go_loopw [11] (fun s11 wr => ∃ (i : Nat) (xs : List UInt8), i ≤ M ∧ s11 = .int .i64 (i : Int) ∧ xs.length = M ∧ (∀ j, j < i → xs[j]? = some v) ∧ Mine w wr (.slice (some ⟨x, 0, none⟩) M M) xs ∧ Blk wr g 25 #[.int .i64 0, .int .i64 0, .slice none 0 0] ∧ Blk wr q 25 #[.int .i64 (W' : Int), .int .i64 (H' : Int), .slice (some ⟨x, 0, none⟩) M M]) (fun s11 _ => M - (intOf s11).toNat)
      case atStart => exact ⟨0, _, by omega, rfl, by simp, by omega, HM3.out, HB3.out, HQ3.out⟩
      case round =>
        obtain ⟨i, xs, hi, rfl, hxl, hxv, hm, hb, hq⟩ := hrel
        have c2 := hq.cell 2
        have hlq := hq.lt
        simp at c2
        by_cases hlt : i < M
        · have eg : decide (i < M) = true := by simpa using hlt
          obtain ⟨x', rx, -, cx, fx, -, hst⟩ := hm.cell (j := i) (by omega)
          have r2 := Option.some.inj rx
          injection r2 with r3
          subst r3
          obtain ⟨hm4, hf4⟩ := hst v
          have hb4 := hb.fr hf4 (by simp; have := Hgx.out; omega)
          have hq4 := hq.fr hf4 (by simp; have := Hxq.out; omega)
          have HM4 := Lib.hid hm4; have HB4 := Lib.hid hb4; have HQ4 := Lib.hid hq4; have Hxv := Lib.hid hxv; have Hxl := Lib.hid hxl
          clear hm hb hq hst hm4 hf4 hb4 hq4 hxv hxl HM3 HB3 HQ3
          go_wp2_with fail
          refine ⟨⟨i + 1, xs.set i v, by omega, by simp, by rw [List.length_set]; exact Hxl.out, fun j hj => ?_, HM4.out, HB4.out, HQ4.out⟩, by simp [intOf]; omega⟩
          by_cases hji : j = i
          · subst hji; rw [List.getElem?_set_self (by have := Hxl.out; omega)]
          · rw [List.getElem?_set_ne (by omega)]; exact Hxv.out j (by omega)
        · have eg : decide (i < M) = false := by simpa using hlt
          have hxe : xs = List.replicate M v := all_replicate hxl (fun j hj => hxv j (by omega))
          rw [hxe] at hm
          have HM4 := Lib.hid hm
          have c0 := hq.cell 0
          have c1 := hq.cell 1
          have d0 := hb.cell 0
          have d1 := hb.cell 1
          have d2 := hb.cell 2
          have e0 := hb.frozen 0
          have e1 := hb.frozen 1
          have e2 := hb.frozen 2
          have hlg := hb.lt
          simp at c0 c1 d0 d1 d2
          have hb5 := ((hb.set_ 0 (.int .i64 (W' : Int))).set_ 1 (.int .i64 (H' : Int))).set_ 2 (.slice (some ⟨x, 0, none⟩) M M)
          have hf5 : Fr [g] wr (((wr.setCell ⟨g, 0, none⟩ (.int .i64 (W' : Int))).setCell ⟨g, 1, none⟩ (.int .i64 (H' : Int))).setCell ⟨g, 2, none⟩ (.slice (some ⟨x, 0, none⟩) M M)) := (((Fr.refl [g] wr).setCell (.inl (by simp)) _).setCell (.inl (by simp)) _).setCell (.inl (by simp)) _
          have HB5 := Lib.hid hb5; have HF5 := Lib.hid hf5
          clear hm hb hq hxv hxl hxe HM3 HB3 HQ3 hb5 hf5
          go_wp2_with fail
          refine bodyPost_ret (v := .tuple #[plV W' H' (some ⟨x, 0, none⟩) M M, .int .i64 0]) (results_row_tmp Try.results12 _ _ g 25 _ (0, 0) _ rfl HB5.out.here Try.underlying25 rfl (by kernel_rfl)) rfl ⟨_, rfl, some ⟨x, 0, none⟩, M, by simp, ?_⟩
          have hgw : w.heap.size ≤ g := by rw [Hg.out]; exact Nat.le_refl _
          have hm : Mine w (((wr.setCell ⟨g, 0, none⟩ (.int .i64 (W' : Int))).setCell ⟨g, 1, none⟩ (.int .i64 (H' : Int))).setCell ⟨g, 2, none⟩ (.slice (some ⟨x, 0, none⟩) M M)) (.slice (some ⟨x, 0, none⟩) M M) (List.replicate M v) := by
            refine ⟨HM4.out.own.fr HF5.out (fun k hk hm => ?_), HM4.out.fr.trans HF5.out (fun k hk => .inr ?_), HM4.out.new⟩
            · have h1 : x = k := by simpa [Value.ownBlock] using hk
              have h2 := Hgx.out
              simp at hm
              omega
            · simp at hk; omega
          rw [List.length_replicate]
          exact hm

set_option maxRecDepth 20000 in
theorem rcopyP_any (W H : Int) (A : Option Addr) (c : Nat) (pix : List UInt8) (w : World) (hs : Src w (.slice A pix.length c) (pix.map B8)) (hn : pix.length ≤ 1000000000000) :
    Calls Try.prog 45 #[plV W H A pix.length c] w fun e w' => ∃ u, e = .returned u ∧ PlMine w w' u ⟨W, H, pix⟩ := by
  obtain ⟨n, hnn⟩ : ∃ n, n = pix.length := ⟨_, rfl⟩
  rw [← hnn] at hs hn ⊢
  have HS := Lib.hid hs
  have Hnn := Lib.hid hnn
  clear hs hnn
  unfold plV
  go_enter Try.func45, Try.ntmps45
  go_upto_region 1 with fail
  have hb := (Blk.new w 25 #[.int .i64 W, .int .i64 H, .slice A n c]).alloc (.cells #[.int .i64 0, .int .i64 0, .slice none 0 0] 25)
  have hr := Blk.new (w.alloc (.cells #[.int .i64 W, .int .i64 H, .slice A n c] 25)) 25 #[.int .i64 0, .int .i64 0, .slice none 0 0]
  have hf : Fr [] w ((w.alloc (.cells #[.int .i64 W, .int .i64 H, .slice A n c] 25)).alloc (.cells #[.int .i64 0, .int .i64 0, .slice none 0 0] 25)) := ((Fr.refl _ _).alloc _).alloc _
  rw [World.size_alloc] at hr
  generalize (w.alloc (.cells #[.int .i64 W, .int .i64 H, .slice A n c] 25)).alloc (.cells #[.int .i64 0, .int .i64 0, .slice none 0 0] 25) = w1 at hb hr hf ⊢
  obtain ⟨g, hg⟩ : ∃ g, g = w.heap.size := ⟨_, rfl⟩
  rw [← hg] at hb hr ⊢
  obtain ⟨r, hrr⟩ : ∃ r, r = g + 1 := ⟨_, rfl⟩
  rw [← hrr] at hr ⊢
  have c2 := hb.cell 2
  have hlb := hb.lt
  simp at c2
  have HB := Lib.hid hb; have HR := Lib.hid hr; have HF := Lib.hid hf; have Hg := Lib.hid (And.intro hg hrr)
  clear hb hr hf hg hrr
  go_wp2_with (at_builtin; refine wp_append_u8 _ _ (.slice (some ⟨w1.heap.size, 0, none⟩) 0 0) [] (.slice A n c) pix rfl rfl rfl rfl (Own.lit w1 5 #[] 0 rfl (by simp [maxLen])) ((HS.out.fr0 HF.out).fr0 ((Fr.refl _ _).alloc _)) (by simp; have := Hnn.out; omega) ?_)
  intro vo w3 hO hG
  have hM := Mine.copied (w0 := w) (w := w1) hO hG HF.out
  have hf13 : Fr [] w1 w3 := ((Fr.refl _ _).alloc _).trans hG.1 (by intro x hx; simp [Value.ownBlock] at hx; subst hx; exact .inr (Nat.le_refl _))
  obtain ⟨A', c', rfl⟩ := hM.slice
  have hne : ∀ k, (Value.slice A' pix.length c').ownBlock = some k → k ≠ g ∧ k ≠ r := by
    intro k hk
    have h1 := HB.out.lt
    have h2 := HR.out.lt
    rcases hG.2 with e | ⟨g2, e, hg2⟩
    · rw [e] at hk
      simp [Value.ownBlock] at hk
      omega
    · rw [e] at hk
      injection hk with hk
      simp at hg2
      omega
  rw [← Hnn.out] at hM hne ⊢
  have hb3 := HB.out.fr hf13 (by simp)
  have hr3 := HR.out.fr hf13 (by simp)
  have hgr : g ≠ r := by have := Hg.out.2; omega
  have k2 := hb3.cell 2
  have f2 := hb3.frozen 2
  have hl3 := hb3.lt
  simp at k2
  have hb4 := hb3.set_ 2 (.slice A' n c')
  have hr4 := hr3.far (p := ⟨g, 2, none⟩) (by simp; omega) (.slice A' n c')
  have hf4 : Fr [g] w3 (w3.setCell ⟨g, 2, none⟩ (.slice A' n c')) := (Fr.refl _ _).setCell (.inl (by simp)) _
  generalize hw4 : w3.setCell ⟨g, 2, none⟩ (.slice A' n c') = w4 at hb4 hr4 hf4
  have HM := Lib.hid hM; have Hne := Lib.hid hne; have HB4 := Lib.hid hb4; have HR4 := Lib.hid hr4; have HF4 := Lib.hid hf4; have Hw4 := Lib.hid hw4
  clear hO hG hf13 hM hne hb3 hr3 hb4 hr4 hf4 hw4 c2 hlb HB HR
  go_upto_region 2 with fail
  rw [Hw4.out]
  clear k2 f2 hl3
  have k0 := HB4.out.cell 0
  have k1 := HB4.out.cell 1
  have k2 := HB4.out.cell 2
  have d0 := HR4.out.cell 0
  have d1 := HR4.out.cell 1
  have d2 := HR4.out.cell 2
  have e0 := HR4.out.frozen 0
  have e1 := HR4.out.frozen 1
  have e2 := HR4.out.frozen 2
  have hlg := HB4.out.lt
  have hlr := HR4.out.lt
  simp at k0 k1 k2 d0 d1 d2
  have hr5 := ((HR4.out.set_ 0 (.int .i64 W)).set_ 1 (.int .i64 H)).set_ 2 (.slice A' n c')
  have hf5 : Fr [r] w4 (((w4.setCell ⟨r, 0, none⟩ (.int .i64 W)).setCell ⟨r, 1, none⟩ (.int .i64 H)).setCell ⟨r, 2, none⟩ (.slice A' n c')) := (((Fr.refl [r] w4).setCell (.inl (by simp)) _).setCell (.inl (by simp)) _).setCell (.inl (by simp)) _
  have HR5 := Lib.hid hr5; have HF5 := Lib.hid hf5
  clear hr5 hf5
  go_wp2_with fail
  refine bodyPost_ret (v := plV W H A' n c') (results_cell_row Try.results45 _ _ r 25 _ (0, 0) _ rfl HR5.out.here Try.underlying25 rfl (by kernel_rfl)) rfl ⟨_, rfl, A', c', by rw [Hnn.out], ?_⟩
  rw [← Hnn.out]
  have hwg := Hg.out.1
  have hwr := Hg.out.2
  refine ⟨(HM.out.own.fr HF4.out (fun k hk hm => ?_)).fr HF5.out (fun k hk hm => ?_), (HM.out.fr.trans HF4.out (fun k hk => .inr ?_)).trans HF5.out (fun k hk => .inr ?_), HM.out.new⟩
  · simp at hm; exact (Hne.out k hk).1 hm
  · simp at hm; exact (Hne.out k hk).2 hm
  · simp at hk; omega
  · simp at hk; omega
end Go.Proofs.Ytlcjlgdcleenlaa

/-
  Contracts of the document's planes: Lay; conditions: the numbers are an int's.
-/
namespace Go.Proofs.Ytlcjlgdcleenlaa
open Go.RowKit

theorem zero_plane : (Try.prog.info? 25).map (·.size) = some 3 := by kernel_rfl

/-- Behind the box of the argument and the result's block. -/
structure Two6 (w w1 : World) (g r : Nat) (cs : Array Value) : Prop where
  fr : Fr [] w w1
  eg : g = w.heap.size
  er : r = g + 1
  bg : Blk w1 g 25 cs
  br : Blk w1 r 25 #[.int .i64 0, .int .i64 0, .slice none 0 0]
theorem two6 (w : World) (cs : Array Value) : Two6 w ((w.alloc (.cells cs 25)).alloc (.cells #[.int .i64 0, .int .i64 0, .slice none 0 0] 25)) w.heap.size (w.heap.size + 1) cs := by
  refine ⟨((Fr.refl _ _).alloc _).alloc _, rfl, rfl, (Blk.new w 25 cs).alloc _, ?_⟩
  have := Blk.new (w.alloc (.cells cs 25)) 25 #[.int .i64 0, .int .i64 0, .slice none 0 0]
  rw [World.size_alloc] at this
  exact this
theorem Two6.fr0 {w w1 w2 : World} {g r : Nat} {cs : Array Value} (h : Two6 w w1 g r cs) (hf : Fr [] w1 w2) : Two6 w w2 g r cs :=
  ⟨h.fr.trans hf (by simp), h.eg, h.er, h.bg.fr hf (by simp), h.br.fr hf (by simp)⟩

theorem lay_arg {P : Pl} {x y n : Int} {b : List UInt8} (h : ¬ (1 ≤ n ∧ n ≤ 64 ∧ (b.length : Int) = n * n)) : P.lay x y n b = (plNone, 1) := by
  unfold Pl.lay
  rw [if_pos]
  by_cases h1 : 1 ≤ n
  · by_cases h2 : n ≤ 64
    · have h3 : ¬ (b.length : Int) = n * n := fun e => h ⟨h1, h2, e⟩
      simp [h3]
    · simp [spanOk, h2]
  · simp [spanOk, h1]
theorem lay_plane {P : Pl} {x y n : Int} {b : List UInt8} (h : 1 ≤ n ∧ n ≤ 64 ∧ (b.length : Int) = n * n) (hp : P.ok = false) : P.lay x y n b = (plNone, 61) := by
  unfold Pl.lay
  rw [if_neg (by simp [spanOk, h.1, h.2.1, h.2.2]), if_pos (by rw [hp]; rfl)]
theorem lay_ok {P : Pl} {x y n : Int} {b : List UInt8} (h : 1 ≤ n ∧ n ≤ 64 ∧ (b.length : Int) = n * n) (hp : P.ok = true) : P.lay x y n b = (⟨P.w, P.h, P.lays x y n.toNat b (n.toNat * n.toNat)⟩, 0) := by
  unfold Pl.lay
  rw [if_neg (by simp [spanOk, h.1, h.2.1, h.2.2]), if_neg (by rw [hp]; simp)]

/-- While samples are laid: the argument's box g, the result's block r, the copy's block q and its samples. -/
structure LayAt (w wr : World) (g r q : Nat) (cs : Array Value) (W H : Int) (A : Option Addr) (n c : Nat) (px : List UInt8) : Prop where
  two : Two6 w wr g r cs
  out : Blk wr q 25 #[.int .i64 W, .int .i64 H, .slice A n c]
  own : Mine w wr (.slice A n c) px
  ne : ∀ k, (Value.slice A n c).ownBlock = some k → k ≠ g ∧ k ≠ r ∧ k ≠ q
theorem LayAt.fr0 {w wr w2 : World} {g r q : Nat} {cs : Array Value} {W H : Int} {A : Option Addr} {n c : Nat} {px : List UInt8} (h : LayAt w wr g r q cs W H A n c px) (hf : Fr [] wr w2) : LayAt w w2 g r q cs W H A n c px :=
  ⟨h.two.fr0 hf, h.out.fr hf (by simp), h.own.fr0 hf, h.ne⟩
theorem LayAt.store {w wr : World} {g r q : Nat} {cs : Array Value} {W H : Int} {A : Option Addr} {n c k : Nat} {px : List UInt8} (h : LayAt w wr g r q cs W H A n c px) (hk : k < px.length) :
    ∃ x, A = some ⟨x, 0, none⟩ ∧ (∃ z : UInt8, wr.cell? ⟨x, k, none⟩ = some (.int .u8 (z.toNat : Int))) ∧ wr.frozen? ⟨x, k, none⟩ = false ∧ ∀ z : UInt8, LayAt w (wr.setCell ⟨x, k, none⟩ (.int .u8 (z.toNat : Int))) g r q cs W H A n c (px.set k z) := by
  obtain ⟨x, rfl, hx, cx, fx, -, hst⟩ := h.own.cell hk
  have hn := h.ne x rfl
  refine ⟨x, rfl, ⟨_, cx⟩, fx, fun z => ?_⟩
  obtain ⟨hm, hf⟩ := hst z
  exact ⟨⟨hm.fr, h.two.eg, h.two.er, h.two.bg.fr hf (by simp; omega), h.two.br.fr hf (by simp; omega)⟩, h.out.fr hf (by simp; omega), hm, h.ne⟩

def LayPost (w : World) (W H : Int) (pix : List UInt8) (x y n : Int) (b : List UInt8) (e : Ending) (w' : World) : Prop :=
  ∃ u, e = .returned (.tuple #[u, .int .i64 (Pl.lay ⟨W, H, pix⟩ x y n b).2]) ∧ PlMine w w' u (Pl.lay ⟨W, H, pix⟩ x y n b).1

set_option maxRecDepth 20000 in
set_option maxHeartbeats 4000000 in
theorem rlay_bad (W H : Int) (A : Option Addr) (c : Nat) (pix : List UInt8) (x y n : Int) (Ab : Option Addr) (cb : Nat) (b : List UInt8) (w : World) (hn : pix.length ≤ 1000000000000) (_hb : b.length ≤ 1000000000000)
    (h : ¬ (1 ≤ n ∧ n ≤ 64 ∧ (b.length : Int) = n * n) ∨ Pl.ok ⟨W, H, pix⟩ = false) :
    Calls Try.prog 19 #[plV W H A pix.length c, .int .i64 x, .int .i64 y, .int .i64 n, .slice Ab b.length cb] w (LayPost w W H pix x y n b) := by
  have HR := Lib.hid fun w => rright_pl W H A c pix w hn
  obtain ⟨R, hR⟩ : ∃ R, R = Pl.ok ⟨W, H, pix⟩ := ⟨_, rfl⟩
  have hend : ∀ (E : Int) w2, Fr [] w w2 → Pl.lay ⟨W, H, pix⟩ x y n b = (plNone, E) → LayPost w W H pix x y n b (.returned (.tuple #[plV 0 0 none 0 0, .int .i64 E])) w2 := by
    intro E w2 h2 he
    unfold LayPost
    rw [he]
    exact ⟨_, rfl, plNone_mine h2⟩
  have hcase : (n < 1 ∧ Pl.lay ⟨W, H, pix⟩ x y n b = (plNone, 1)) ∨ ((1 ≤ n ∧ 64 < n) ∧ Pl.lay ⟨W, H, pix⟩ x y n b = (plNone, 1)) ∨ ((1 ≤ n ∧ n ≤ 64 ∧ (b.length : Int) ≠ n * n) ∧ Pl.lay ⟨W, H, pix⟩ x y n b = (plNone, 1)) ∨ ((1 ≤ n ∧ n ≤ 64 ∧ (b.length : Int) = n * n) ∧ R = false ∧ Pl.lay ⟨W, H, pix⟩ x y n b = (plNone, 61)) := by
    by_cases h1 : 1 ≤ n
    · by_cases h2 : n ≤ 64
      · by_cases h3 : (b.length : Int) = n * n
        · rcases h with h | h
          · exact absurd ⟨h1, h2, h3⟩ h
          · exact .inr (.inr (.inr ⟨⟨h1, h2, h3⟩, by rw [hR, h], lay_plane ⟨h1, h2, h3⟩ h⟩))
        · exact .inr (.inr (.inl ⟨⟨h1, h2, h3⟩, lay_arg (fun k => h3 k.2.2)⟩))
      · exact .inr (.inl ⟨⟨h1, by omega⟩, lay_arg (fun k => h2 k.2.1)⟩)
    · exact .inl ⟨by omega, lay_arg (fun k => h1 k.1)⟩
  rw [← hR] at HR
  have Hend := Lib.hid hend
  obtain ⟨L, hL⟩ : ∃ L, L = LayPost w W H pix x y n b := ⟨_, rfl⟩
  rw [← hL] at Hend ⊢
  obtain ⟨bl, hbl⟩ : ∃ bl, bl = b.length := ⟨_, rfl⟩
  rw [← hbl] at hcase _hb ⊢
  have hT := two6 w #[.int .i64 W, .int .i64 H, .slice A pix.length c]
  have HT := Lib.hid hT
  clear hR hend h hL hbl hT
  unfold plV at HR ⊢
  rcases hcase with ⟨h1, he⟩ | ⟨⟨h1, h2⟩, he⟩ | ⟨⟨h1, h2, h3⟩, he⟩ | ⟨⟨h1, h2, h3⟩, rfl, he⟩
  case' inl =>
    have e1 : decide (n < 1) = true := by simpa using h1
  case' inr.inl =>
    have e1 : decide (n < 1) = false := by simp; omega
    have e2 : decide (64 < n) = true := by simpa using h2
  case' inr.inr.inl =>
    have e1 : decide (n < 1) = false := by simp; omega
    have e2 : decide (64 < n) = false := by simp; omega
    obtain ⟨N, rfl⟩ : ∃ N : Nat, n = (N : Int) := ⟨n.toNat, by omega⟩
    obtain ⟨M, hM⟩ : ∃ M, M = N * N := ⟨_, rfl⟩
    have hMl : M ≤ 4096 := by rw [hM]; exact Nat.mul_le_mul (show N ≤ 64 by omega) (show N ≤ 64 by omega)
    have eM : (N : Int) * (N : Int) = (M : Int) := by rw [hM]; simp
    rw [eM] at h3
    have e3 : ((bl : Int) != (M : Int)) = true := by simpa using h3
    clear h3 hM
  case' inr.inr.inr =>
    have e1 : decide (n < 1) = false := by simp; omega
    have e2 : decide (64 < n) = false := by simp; omega
    obtain ⟨N, rfl⟩ : ∃ N : Nat, n = (N : Int) := ⟨n.toNat, by omega⟩
    obtain ⟨M, hM⟩ : ∃ M, M = N * N := ⟨_, rfl⟩
    have hMl : M ≤ 4096 := by rw [hM]; exact Nat.mul_le_mul (show N ≤ 64 by omega) (show N ≤ 64 by omega)
    have eM : (N : Int) * (N : Int) = (M : Int) := by rw [hM]; simp
    rw [eM] at h3
    have e3 : ((bl : Int) != (M : Int)) = false := by simpa using h3
    clear h3 hM
  all_goals
    have He := Lib.hid he
    clear he
    go_enter Try.func19, Try.ntmps19
    go_upto_region 1 with fail
    generalize (w.alloc (.cells #[.int .i64 W, .int .i64 H, .slice A pix.length c] 25)).alloc (.cells #[.int .i64 0, .int .i64 0, .slice none 0 0] 25) = w1 at HT ⊢
    obtain ⟨g, hg⟩ : ∃ g, g = w.heap.size := ⟨_, rfl⟩
    rw [← hg] at HT ⊢
    obtain ⟨r, hr⟩ : ∃ r, r = g + 1 := ⟨_, rfl⟩
    rw [← hr] at HT ⊢
    clear hg hr
    have c0 := HT.out.bg.cell 0
    have c1 := HT.out.bg.cell 1
    have c2 := HT.out.bg.cell 2
    have hlg := HT.out.bg.lt
    simp at c0 c1 c2
    go_wp2_with fail
    refine (HR.out _).mono ?_
    rintro e w2 ⟨rfl, hF2⟩
    have HT2 := Lib.hid (HT.out.fr0 hF2)
    clear hF2 c0 c1 c2 hlg HT
    have d0 := HT2.out.br.cell 0
    have d1 := HT2.out.br.cell 1
    have d2 := HT2.out.br.cell 2
    have f0 := HT2.out.br.frozen 0
    have f1 := HT2.out.br.frozen 1
    have f2 := HT2.out.br.frozen 2
    have hlr := HT2.out.br.lt
    simp at d0 d1 d2
    have hb5 := ((HT2.out.br.set_ 0 (.int .i64 0)).set_ 1 (.int .i64 0)).set_ 2 (.slice none 0 0)
    have hf5 : Fr [] w (((w2.setCell ⟨r, 0, none⟩ (.int .i64 0)).setCell ⟨r, 1, none⟩ (.int .i64 0)).setCell ⟨r, 2, none⟩ (.slice none 0 0)) := by
      have hrw : w.heap.size ≤ r := by rw [HT2.out.er, HT2.out.eg]; omega
      exact ((HT2.out.fr.setCell (.inr hrw) _).setCell (.inr hrw) _).setCell (.inr hrw) _
    have HB5 := Lib.hid hb5; have HF5 := Lib.hid hf5
    clear hb5 hf5
    go_wp2_with fail
    refine bodyPost_ret (results_row_tmp Try.results19 _ _ r 25 _ (0, 0) _ rfl HB5.out.here Try.underlying25 rfl (by kernel_rfl)) rfl ?_
    exact Hend.out _ _ HF5.out He.out

set_option maxRecDepth 20000 in
set_option maxHeartbeats 8000000 in
theorem rlay_good (W H : Nat) (A : Option Addr) (c : Nat) (pix : List UInt8) (x y : Int) (n : Nat) (Ab : Option Addr) (cb : Nat) (b : List UInt8) (w : World)
    (hs : Src w (.slice A pix.length c) (pix.map B8)) (hsb : Src w (.slice Ab b.length cb) (b.map B8)) (hok : Pl.ok ⟨W, H, pix⟩ = true) (hn1 : 1 ≤ n) (hn2 : n ≤ 64) (hbl : b.length = n * n)
    (hx1 : -9223372036854775808 ≤ x) (hx2 : x ≤ 9223372036854775807) (hy1 : -9223372036854775808 ≤ y) (hy2 : y ≤ 9223372036854775807) :
    Calls Try.prog 19 #[plV W H A pix.length c, .int .i64 x, .int .i64 y, .int .i64 (n : Int), .slice Ab b.length cb] w (LayPost w W H pix x y n b) := by
  obtain ⟨⟨a1, a2⟩, ⟨b1, b2⟩, hl⟩ := Pl.ok_iff.1 hok
  simp only at a1 a2 b1 b2 hl
  have hpl : pix.length ≤ 16777216 := by
    have h1 : W * H ≤ 4096 * 4096 := Nat.mul_le_mul (by omega) (by omega)
    have : (pix.length : Int) = ((W * H : Nat) : Int) := by rw [hl]; simp
    omega
  have HR := Lib.hid fun w => rright_pl W H A c pix w (by omega)
  rw [hok] at HR
  have HC := Lib.hid fun w (h : Src w (.slice A pix.length c) (pix.map B8)) => rcopyP_any W H A c pix w h (by omega)
  have hlay := lay_ok (P := ⟨W, H, pix⟩) (x := x) (y := y) (n := (n : Int)) (b := b) ⟨by omega, by omega, by rw [hbl]; simp⟩ hok
  have e1 : decide ((n : Int) < 1) = false := by simp; omega
  have e2 : decide ((64 : Int) < (n : Int)) = false := by simp; omega
  obtain ⟨M, hM⟩ : ∃ M, M = n * n := ⟨_, rfl⟩
  have hMl : M ≤ 4096 := by rw [hM]; exact Nat.mul_le_mul (show n ≤ 64 by omega) (show n ≤ 64 by omega)
  have eM : (n : Int) * (n : Int) = (M : Int) := by rw [hM]; simp
  rw [← hM] at hbl
  have e3 : ((M : Int) != (M : Int)) = false := by simp
  have Hlay := Lib.hid hlay
  obtain ⟨L, hL⟩ : ∃ L, L = LayPost w W H pix x y n b := ⟨_, rfl⟩
  rw [← hL]
  rw [hbl] at hsb ⊢
  have hT := two6 w #[.int .i64 W, .int .i64 H, .slice A pix.length c]
  have HT := Lib.hid hT; have HL := Lib.hid hL; have HS := Lib.hid hs; have HSb := Lib.hid hsb; have HM := Lib.hid hM; have Hbl := Lib.hid hbl; have Hok := Lib.hid hok
  obtain ⟨pl, hpll⟩ : ∃ pl, pl = pix.length := ⟨_, rfl⟩
  rw [← hpll] at HT HS HR HC hpl ⊢
  have Hpl := Lib.hid hpll
  clear hlay hL hs hsb hok hl hM hbl hT hpll
  unfold plV at HR HC ⊢
  go_enter Try.func19, Try.ntmps19
  go_upto_region 1 with fail
  generalize (w.alloc (.cells #[.int .i64 W, .int .i64 H, .slice A pl c] 25)).alloc (.cells #[.int .i64 0, .int .i64 0, .slice none 0 0] 25) = w1 at HT ⊢
  obtain ⟨g, hg⟩ : ∃ g, g = w.heap.size := ⟨_, rfl⟩
  rw [← hg] at HT ⊢
  obtain ⟨r, hr⟩ : ∃ r, r = g + 1 := ⟨_, rfl⟩
  rw [← hr] at HT ⊢
  clear hg hr
  have c0 := HT.out.bg.cell 0
  have c1 := HT.out.bg.cell 1
  have c2 := HT.out.bg.cell 2
  have hlg := HT.out.bg.lt
  simp at c0 c1 c2
  go_wp2_with fail
  refine (HR.out _).mono ?_
  rintro e w2 ⟨rfl, hF2⟩
  have HT2 := Lib.hid (HT.out.fr0 hF2)
  clear hF2 c0 c1 c2 hlg HT
  have c0 := HT2.out.bg.cell 0
  have c1 := HT2.out.bg.cell 1
  have c2 := HT2.out.bg.cell 2
  have hlg := HT2.out.bg.lt
  simp at c0 c1 c2
  go_wp2_with fail
  refine (HC.out _ (HS.out.fr0 HT2.out.fr)).mono ?_
  rintro e w3 ⟨u, rfl, A3, c3, rfl, hM3⟩
  have HT3 := Lib.hid (HT2.out.fr0 hM3.fr)
  have hM3' : Mine w w3 (.slice A3 pix.length c3) pix := ⟨hM3.own, HT3.out.fr, fun k hk => Nat.le_trans HT2.out.fr.size (hM3.new k hk)⟩
  have hne3 : ∀ k, (Value.slice A3 pix.length c3).ownBlock = some k → k ≠ g ∧ k ≠ r := fun k hk => by
    have := hM3.new k hk
    have h1 := HT2.out.bg.lt
    have h2 := HT2.out.br.lt
    omega
  have HM3 := Lib.hid hM3'; have Hne3 := Lib.hid hne3
  clear hM3 hM3' hne3 c0 c1 c2 hlg HT2
  unfold plV
  go_upto_region 7 with fail
  rw [← Hpl.out] at HM3 Hne3 ⊢
  have hq := Blk.new w3 25 #[.int .i64 (W : Int), .int .i64 (H : Int), .slice A3 pl c3]
  have hLA : LayAt w (w3.alloc (.cells #[.int .i64 (W : Int), .int .i64 (H : Int), .slice A3 pl c3] 25)) g r w3.heap.size #[.int .i64 (W : Int), .int .i64 (H : Int), .slice A pl c] W H A3 pl c3 pix := by
    have hf : Fr [] w3 (w3.alloc (.cells #[.int .i64 (W : Int), .int .i64 (H : Int), .slice A3 pl c3] 25)) := (Fr.refl _ _).alloc _
    refine ⟨HT3.out.fr0 hf, hq, HM3.out.fr0 hf, fun k hk => ⟨(Hne3.out k hk).1, (Hne3.out k hk).2, ?_⟩⟩
    have := HM3.out.own.lt k hk
    omega
  generalize w3.alloc (.cells #[.int .i64 (W : Int), .int .i64 (H : Int), .slice A3 pl c3] 25) = w4 at hLA ⊢
  obtain ⟨q, hqq⟩ : ∃ q, q = w3.heap.size := ⟨_, rfl⟩
  rw [← hqq] at hLA ⊢
  have HLA := Lib.hid hLA
  have hqw : w.heap.size ≤ q := by rw [hqq]; exact HM3.out.fr.size
  have hqr : q ≠ r := by have := HT3.out.br.lt; omega
  have Hqr := Lib.hid (And.intro hqr hqw)
  clear hq hLA hqq HT3 HM3 Hne3 HR HC hqw hqr
  obtain ⟨P, hP⟩ : ∃ P : Pl, P = ⟨W, H, pix⟩ := ⟨_, rfl⟩
  have hPo : P.ok = true := by rw [hP]; exact Hok.out
  have hPw : P.w = W ∧ P.h = H ∧ P.pix = pix ∧ P.w.toNat = W := by rw [hP]; simp
  have HP := Lib.hid (And.intro hPo hPw)
  have HPe := Lib.hid hP
  clear hPo hPw hP
  go_wp2_with fail
  go_loopw [14] (fun s14 wr => ∃ j : Nat, j ≤ n ∧ s14 = .int .i64 (j : Int) ∧ LayAt w wr g r q #[.int .i64 (W : Int), .int .i64 (H : Int), .slice A pl c] W H A3 pl c3 (P.lays x y n b (j * n))) (fun s14 _ => n - (intOf s14).toNat)
  case atStart => exact ⟨0, by omega, rfl, by rw [Nat.zero_mul, lays_zero, HP.out.2.2.2.1]; exact HLA.out⟩
  case round =>
    obtain ⟨j, hj, rfl, hLA⟩ := hrel
    by_cases hlt : j < n
    · have eg : decide (j < n) = true := by simpa using hlt
      have HLj := Lib.hid hLA
      clear hLA HLA
      go_wp2_with fail
      go_loopw [15] (fun s15 wr => ∃ i : Nat, i ≤ n ∧ s15 = .int .i64 (i : Int) ∧ LayAt w wr g r q #[.int .i64 (W : Int), .int .i64 (H : Int), .slice A pl c] W H A3 pl c3 (P.lays x y n b (j * n + i))) (fun s15 _ => n - (intOf s15).toNat)
      case atStart => exact ⟨0, by omega, rfl, HLj.out⟩
      case round =>
        obtain ⟨i, hi, rfl, hLA⟩ := hrel
        by_cases hlt2 : i < n
        · have eg2 : decide (i < n) = true := by simpa using hlt2
          have HSX := Lib.hid fun w => rshifted_any x i w hx1 hx2 (by omega) (by omega)
          have HSY := Lib.hid fun w => rshifted_any y j w hy1 hy2 (by omega) (by omega)
          obtain ⟨sa, hsa⟩ : ∃ sa, sa = shiftI x i := ⟨_, rfl⟩
          obtain ⟨sc, hsc⟩ : ∃ sc, sc = shiftI y j := ⟨_, rfl⟩
          rw [← hsa] at HSX
          rw [← hsc] at HSY
          have hstep := lays_step HP.out.1 (x := x) (y := y) (j := j) hlt2 b
          have hia := shift_in (x := x) (i := (i : Int)) (W := (W : Int)) (by omega) (by omega)
          have hic := shift_in (x := y) (i := (j : Int)) (W := (H : Int)) (by omega) (by omega)
          have hsma := shift_same (x := x) (i := (i : Int)) (W := (W : Int)) (by omega)
          have hsmc := shift_same (x := y) (i := (j : Int)) (W := (H : Int)) (by omega)
          rw [← hsa] at hia hsma
          rw [← hsc] at hic hsmc
          rw [HP.out.2.1, HP.out.2.2.1] at hstep
          have c0 := hLA.two.bg.cell 0
          have c1 := hLA.two.bg.cell 1
          have hlg := hLA.two.bg.lt
          simp at c0 c1
          have HLi := Lib.hid hLA; have Hstep := Lib.hid hstep; have Hia := Lib.hid hia; have Hic := Lib.hid hic; have Hsma := Lib.hid hsma; have Hsmc := Lib.hid hsmc
          clear hLA hsa hsc hstep hia hic hsma hsmc HLj
          by_cases hin : (0 ≤ sa ∧ sa < (W : Int)) ∧ (0 ≤ sc ∧ sc < (H : Int))
          · obtain ⟨⟨q1, q2⟩, q3, q4⟩ := hin
            have t1 : decide (0 ≤ sa) = true := by simpa using q1
            have t2 : decide (sa < (W : Int)) = true := by simpa using q2
            have t3 : decide (0 ≤ sc) = true := by simpa using q3
            have t4 : decide (sc < (H : Int)) = true := by simpa using q4
            obtain ⟨a, ha⟩ : ∃ a : Nat, sa = (a : Int) := ⟨sa.toNat, by omega⟩
            obtain ⟨cc, hcc⟩ : ∃ cc : Nat, sc = (cc : Int) := ⟨sc.toNat, by omega⟩
            have haW : a < W := by omega
            have hcH : cc < H := by omega
            have hpp : pl = W * H := by
              have h1 := (Pl.ok_iff.1 Hok.out).2.2
              simp only at h1
              rw [Hpl.out]
              have : (pix.length : Int) = ((W * H : Nat) : Int) := by rw [h1]; simp
              omega
            have hK := cell_lt haW hcH
            rw [← hpp] at hK
            obtain ⟨CW, hCW⟩ : ∃ CW, CW = cc * W := ⟨_, rfl⟩
            obtain ⟨K, hKK⟩ : ∃ K, K = CW + a := ⟨_, rfl⟩
            have hKl : K < pl := by rw [hKK, hCW]; exact hK
            obtain ⟨JN, hJN⟩ : ∃ JN, JN = j * n := ⟨_, rfl⟩
            obtain ⟨T, hT⟩ : ∃ T, T = JN + i := ⟨_, rfl⟩
            have hTl : T < M := by
              have := cell_lt hlt2 hlt
              rw [hT, hJN, HM.out]
              exact this
            have eCW : sc * (W : Int) = (CW : Int) := by rw [hcc, hCW]; simp
            have eK : (CW : Int) + sa = (K : Int) := by rw [ha, hKK]; simp
            have eJN : (j : Int) * (n : Int) = (JN : Int) := by rw [hJN]; simp
            have eT : (JN : Int) + (i : Int) = (T : Int) := by rw [hT]; simp
            have v1 : IntKind.i64.wrap (CW : Int) = (CW : Int) := IntWalk.i64_in _ (by omega)
            have v2 : IntKind.i64.wrap (K : Int) = (K : Int) := IntWalk.i64_in _ (by omega)
            have v3 : IntKind.i64.wrap (JN : Int) = (JN : Int) := IntWalk.i64_in _ (by omega)
            have v4 : IntKind.i64.wrap (T : Int) = (T : Int) := IntWalk.i64_in _ (by omega)
            obtain ⟨z, hz⟩ : ∃ z, b[T]? = some z := ⟨_, List.getElem?_eq_getElem (by rw [Hbl.out]; exact hTl)⟩
            have hnext : P.lays x y n b (j * n + i + 1) = (P.lays x y n b (j * n + i)).set K z := by
              obtain ⟨z1, z2⟩ := Hia.out.1 ⟨q1, q2⟩
              obtain ⟨z3, z4⟩ := Hic.out.1 ⟨q3, q4⟩
              have z5 := Hsma.out q2
              have z6 := Hsmc.out q4
              rw [Hstep.out, if_pos ⟨z1, z2, z3, z4, hlt⟩]
              have k1 : (y + (j : Int)).toNat = cc := by omega
              have k2 : (x + (i : Int)).toNat = a := by omega
              rw [k1, k2, Int.toNat_natCast, ← hCW, ← hKK]
              congr 1
              rw [← hJN, ← hT, List.getD_eq_getElem?_getD, hz]; rfl
            have hlen : (P.lays x y n b (j * n + i)).length = pl := by rw [lays_length, HP.out.2.2.2.1, Hpl.out]
            have hLd := HLi.out.fr0 (Fr.refl [] wr).drew
            obtain ⟨x3, rfl, ⟨z0, cx⟩, fx, hst⟩ := hLd.store (k := K) (by rw [hlen]; exact hKl)
            have hst' := hst z
            obtain ⟨ad, rfl, cb0⟩ := (HSb.out.fr0 hLd.two.fr).cellAt hz
            have cbT : wr.drew.cell? (ad.add T) = some (.int .u8 (z.toNat : Int)) := cb0
            have d0 := hLd.two.bg.cell 0
            have d2 := hLd.out.cell 2
            simp at d0 d2
            have p0 := hst'.two.bg.cell 0
            have p2 := hst'.out.cell 2
            simp at p0 p2
            have pT : (wr.drew.setCell ⟨x3, K, none⟩ (.int .u8 (z.toNat : Int))).cell? (ad.add T) = some (.int .u8 (z.toNat : Int)) := by
              obtain ⟨ad2, r2, cb2⟩ := (HSb.out.fr0 hst'.two.fr).cellAt hz
              have r3 := Option.some.inj r2
              rw [r3]
              exact cb2
            have Hnext := Lib.hid hnext; have Hst := Lib.hid hst'
            clear ha hcc haW hcH hpp hK hCW hKK hJN hT hz hnext hlen hst hst' cb0 q1 q2 q3 q4 hLd
            go_wp2_with fail
            refine (HSX.out _).mono ?_
            rintro e w5 ⟨rfl, rfl⟩
            go_wp2_with fail
            refine (HSY.out _).mono ?_
            rintro e w5 ⟨rfl, rfl⟩
            go_upto_region 16 with fail
            clear c0 c1
            refine wp_region_held_drew (S := fun W' => W'.cell? ⟨g, 0, none⟩ = some (.int .i64 (W : Int)) ∧ W'.cell? ⟨q, 2, none⟩ = some (.slice (some ⟨x3, 0, none⟩) pl c3) ∧ W'.cell? (ad.add T) = some (.int .u8 (z.toNat : Int))) (by kernel_rfl) ?_ (fun hHeld => ?_)
            · (repeat' (first | trivial | assumption | refine ⟨?_, ?_⟩))
            refine wpAnyH_pick 0 (v := ?_) rfl (by kernel_rfl) (by kernel_rfl) (by kernel_rfl) (fun _ _ _ h => h) (by assumption) (by rfl) ?_ ?_
            rotate_left
            · (intro w hSw; (try dsimp only at hSw); go_simp) <;> (with_reducible rfl)
            (try simp only [Act.put, List.setIfInBounds_toArray, List.set_cons_zero, List.set_cons_succ])
            refine wpAnyH_pick 1 (v := ?_) rfl (by kernel_rfl) (by kernel_rfl) (by kernel_rfl) (fun _ _ _ h => h) (by assumption) (by rfl) ?_ ?_
            rotate_left
            · (intro w hSw; (try dsimp only at hSw); go_simp) <;> (with_reducible rfl)
            (try simp only [Act.put, List.setIfInBounds_toArray, List.set_cons_zero, List.set_cons_succ])
            refine wpAnyH_pick 2 (v := ?_) rfl (by kernel_rfl) (by kernel_rfl) (by kernel_rfl) (fun _ _ _ h => h) (by assumption) (by rfl) ?_ ?_
            rotate_left
            · (intro w hSw; (try dsimp only at hSw); go_simp) <;> (with_reducible rfl)
            (try simp only [Act.put, List.setIfInBounds_toArray, List.set_cons_zero, List.set_cons_succ])
            refine wpAnyH_pick 3 (v := ?_) rfl (by kernel_rfl) (by kernel_rfl) (by kernel_rfl) (fun _ _ _ h => h) (by assumption) (by rfl) ?_ ?_
            rotate_left
            · (intro w hSw; (try dsimp only at hSw); go_simp) <;> (with_reducible rfl)
            (try simp only [Act.put, List.setIfInBounds_toArray, List.set_cons_zero, List.set_cons_succ])
            refine wpAnyH_pick 4 (v := ?_) rfl (by kernel_rfl) (by kernel_rfl) (by kernel_rfl) (fun _ _ _ h => h) (by assumption) (by rfl) ?_ ?_
            rotate_left
            · (intro w hSw; (try dsimp only at hSw); go_simp) <;> (with_reducible rfl)
            (try simp only [Act.put, List.setIfInBounds_toArray, List.set_cons_zero, List.set_cons_succ])
            refine wpAnyH_pick 5 (v := ?_) rfl (by kernel_rfl) (by kernel_rfl) (by kernel_rfl) (fun _ _ _ h => h) (by assumption) (by rfl) ?_ ?_
            rotate_left
            · (intro w hSw; (try dsimp only at hSw); go_simp) <;> (with_reducible rfl)
            (try simp only [Act.put, List.setIfInBounds_toArray, List.set_cons_zero, List.set_cons_succ])
            refine wpAnyH_pick 6 (v := ?_) rfl (by kernel_rfl) (by kernel_rfl) (by kernel_rfl) (fun _ _ _ h => h) (by assumption) (by rfl) ?_ ?_
            rotate_left
            · (intro w hSw; (try dsimp only at hSw); go_simp) <;> (with_reducible rfl)
            (try simp only [Act.put, List.setIfInBounds_toArray, List.set_cons_zero, List.set_cons_succ])
            refine wpAnyH_pick 7 (v := ?_) rfl (by kernel_rfl) (by kernel_rfl) (by kernel_rfl) (fun _ _ _ h => h) (by assumption) (by rfl) ?_ ?_
            rotate_left
            · (intro w hSw; (try dsimp only at hSw); go_simp) <;> (with_reducible rfl)
            (try simp only [Act.put, List.setIfInBounds_toArray, List.set_cons_zero, List.set_cons_succ])
            refine wpAnyH_pick 8 (v := ?_) rfl (by kernel_rfl) (by kernel_rfl) (by kernel_rfl) (fun _ _ _ h => h) (by assumption) (by rfl) ?_ ?_
            rotate_left
            · (intro w hSw; (try dsimp only at hSw); go_simp) <;> (with_reducible rfl)
            (try simp only [Act.put, List.setIfInBounds_toArray, List.set_cons_zero, List.set_cons_succ])
            refine wpAnyH_pick 9 (v := ?_) rfl (by kernel_rfl) (by kernel_rfl) (by kernel_rfl) (fun _ _ _ h => h) (by assumption) (by rfl) ?_ ?_
            rotate_left
            · (intro w hSw; (try dsimp only at hSw); go_simp) <;> (with_reducible rfl)
            (try simp only [Act.put, List.setIfInBounds_toArray, List.set_cons_zero, List.set_cons_succ])
            refine wpAnyH_pick 10 (v := ?_) rfl (by kernel_rfl) (by kernel_rfl) (by kernel_rfl) (fun _ _ _ h => h) (by assumption) (by rfl) ?_ ?_
            rotate_left
            · (intro w hSw; (try dsimp only at hSw); go_simp) <;> (with_reducible rfl)
            (try simp only [Act.put, List.setIfInBounds_toArray, List.set_cons_zero, List.set_cons_succ])
            refine wpAnyH_pick 11 (v := ?_) rfl (by kernel_rfl) (by kernel_rfl) (by kernel_rfl) (fun _ _ _ h => h) (by assumption) (by rfl) ?_ ?_
            rotate_left
            · (intro w hSw; (try dsimp only at hSw); go_simp) <;> (with_reducible rfl)
            (try simp only [Act.put, List.setIfInBounds_toArray, List.set_cons_zero, List.set_cons_succ])
            refine wpAnyH_pick 12 (v := ?_) rfl (by kernel_rfl) (by kernel_rfl) (by kernel_rfl) (fun _ _ _ h => h) (by assumption) (by rfl) ?_ ?_
            rotate_left
            · (intro w hSw; (try dsimp only at hSw); go_simp) <;> (with_reducible rfl)
            (try simp only [Act.put, List.setIfInBounds_toArray, List.set_cons_zero, List.set_cons_succ])
            refine wpAnyH_pick 13 (v := ?_) rfl (by kernel_rfl) (by kernel_rfl) (by kernel_rfl) (fun _ _ _ h => h) (by assumption) (by rfl) ?_ ?_
            rotate_left
            · (intro w hSw; (try dsimp only at hSw); go_simp) <;> (with_reducible rfl)
            (try simp only [Act.put, List.setIfInBounds_toArray, List.set_cons_zero, List.set_cons_succ])
            refine wpAnyH_pick 14 (v := ?_) rfl (by kernel_rfl) (by kernel_rfl) (by kernel_rfl) (fun _ _ _ h => h) (by assumption) (by rfl) ?_ ?_
            rotate_left
            · (intro w hSw; (try dsimp only at hSw); go_simp) <;> (with_reducible rfl)
            (try simp only [Act.put, List.setIfInBounds_toArray, List.set_cons_zero, List.set_cons_succ])
            refine wpAnyH_pick 15 (v := ?_) rfl (by kernel_rfl) (by kernel_rfl) (by kernel_rfl) (fun _ _ _ h => h) (by assumption) (by rfl) ?_ ?_
            rotate_left
            · (intro w hSw; (try dsimp only at hSw); go_simp) <;> (with_reducible rfl)
            (try simp only [Act.put, List.setIfInBounds_toArray, List.set_cons_zero, List.set_cons_succ])
            refine wpAnyH_pick 16 (v := ?_) rfl (by kernel_rfl) (by kernel_rfl) (by kernel_rfl) (fun _ _ _ h => h) (by assumption) (by rfl) ?_ ?_
            rotate_left
            · (intro w hSw; (try dsimp only at hSw); go_simp) <;> (with_reducible rfl)
            (try simp only [Act.put, List.setIfInBounds_toArray, List.set_cons_zero, List.set_cons_succ])
            refine wpAnyH_ready (rs := [17]) (by kernel_rfl) (by simp) ?_
            refine AllReadyH_pick rfl (fun K hK => ?_) (AllReadyH.nil)
            skip
            go_simp
            refine hK.out _ _ ?_ (fun hHeld => ?_)
            · (repeat' (first | trivial | assumption | refine ⟨?_, ?_⟩))
            clear hK K
            (try simp only [Act.put, List.setIfInBounds_toArray, List.set_cons_zero, List.set_cons_succ])
            refine wpAnyH_done (by kernel_rfl) ?_ _
            skip
            have hL7 : LayAt w (w5.setCell ⟨x3, K, none⟩ (.int .u8 (z.toNat : Int))).drew g r q #[.int .i64 (W : Int), .int .i64 (H : Int), .slice A pl c] W H (some ⟨x3, 0, none⟩) pl c3 ((P.lays x y n b (j * n + i)).set K z) := Hst.out
            have HL7 := Lib.hid hL7
            clear hL7 Hst hHeld d0 d2 p0 p2 pT cbT cx fx
            go_wp2_with fail
            exact ⟨⟨i + 1, by omega, by simp, by rw [← Nat.add_assoc, Hnext.out]; exact HL7.out⟩, by simp [intOf]; omega⟩
          · have hsame : P.lays x y n b (j * n + i + 1) = P.lays x y n b (j * n + i) := by
              rw [Hstep.out, if_neg]
              intro h
              exact hin ⟨Hia.out.2 ⟨h.1, h.2.1⟩, Hic.out.2 ⟨h.2.2.1, h.2.2.2.1⟩⟩
            have Hsame := Lib.hid hsame
            have hex : (sa < 0) ∨ (0 ≤ sa ∧ (W : Int) ≤ sa) ∨ ((0 ≤ sa ∧ sa < (W : Int)) ∧ sc < 0) ∨ ((0 ≤ sa ∧ sa < (W : Int)) ∧ 0 ≤ sc ∧ (H : Int) ≤ sc) := by omega
            clear hsame hin
            rcases hex with z1 | ⟨z1, z2⟩ | ⟨⟨z1, z2⟩, z3⟩ | ⟨⟨z1, z2⟩, z3, z4⟩
            case' inl =>
              have t1 : decide (0 ≤ sa) = false := by simpa using z1
            case' inr.inl =>
              have t1 : decide (0 ≤ sa) = true := by simpa using z1
              have t2 : decide (sa < (W : Int)) = false := by simpa using z2
            case' inr.inr.inl =>
              have t1 : decide (0 ≤ sa) = true := by simpa using z1
              have t2 : decide (sa < (W : Int)) = true := by simpa using z2
              have t3 : decide (0 ≤ sc) = false := by simpa using z3
            case' inr.inr.inr =>
              have t1 : decide (0 ≤ sa) = true := by simpa using z1
              have t2 : decide (sa < (W : Int)) = true := by simpa using z2
              have t3 : decide (0 ≤ sc) = true := by simpa using z3
              have t4 : decide (sc < (H : Int)) = false := by simpa using z4
            all_goals
              go_wp2_with fail
              refine (HSX.out _).mono ?_
              rintro e w5 ⟨rfl, rfl⟩
              go_wp2_with fail
              refine (HSY.out _).mono ?_
              rintro e w5 ⟨rfl, rfl⟩
              go_wp2_with fail
              exact ⟨⟨i + 1, by omega, by simp, by rw [← Nat.add_assoc, Hsame.out]; exact HLi.out⟩, by simp [intOf]; omega⟩
        · have eg2 : decide (i < n) = false := by simpa using hlt2
          have hin : i = n := by omega
          have hL2 : LayAt w wr g r q #[.int .i64 (W : Int), .int .i64 (H : Int), .slice A pl c] W H A3 pl c3 (P.lays x y n b ((j + 1) * n)) := by
            rw [hin] at hLA
            rw [Nat.add_mul, Nat.one_mul]
            exact hLA
          have HL2 := Lib.hid hL2
          clear hLA hL2 hin HLj
          go_wp2_with fail
          exact ⟨⟨j + 1, by omega, by simp, HL2.out⟩, by simp [intOf]; omega⟩
    · have eg : decide (j < n) = false := by simpa using hlt
      have hjn : j = n := by omega
      have hL2 : LayAt w wr g r q #[.int .i64 (W : Int), .int .i64 (H : Int), .slice A pl c] W H A3 pl c3 (P.lays x y n b M) := by
        rw [hjn] at hLA
        rw [HM.out]
        exact hLA
      have k0 := hL2.out.cell 0
      have k1 := hL2.out.cell 1
      have k2 := hL2.out.cell 2
      have d0 := hL2.two.br.cell 0
      have d1 := hL2.two.br.cell 1
      have d2 := hL2.two.br.cell 2
      have e0' := hL2.two.br.frozen 0
      have e1' := hL2.two.br.frozen 1
      have e2' := hL2.two.br.frozen 2
      have hlq := hL2.out.lt
      have hlr := hL2.two.br.lt
      simp at k0 k1 k2 d0 d1 d2
      have hr5 := ((hL2.two.br.set_ 0 (.int .i64 (W : Int))).set_ 1 (.int .i64 (H : Int))).set_ 2 (.slice A3 pl c3)
      have hf5 : Fr [r] wr (((wr.setCell ⟨r, 0, none⟩ (.int .i64 (W : Int))).setCell ⟨r, 1, none⟩ (.int .i64 (H : Int))).setCell ⟨r, 2, none⟩ (.slice A3 pl c3)) := (((Fr.refl [r] wr).setCell (.inl (by simp)) _).setCell (.inl (by simp)) _).setCell (.inl (by simp)) _
      have HR5 := Lib.hid hr5; have HF5 := Lib.hid hf5; have HL2 := Lib.hid hL2
      clear hr5 hf5 hL2 hLA hjn HLA
      go_wp2_with fail
      refine bodyPost_ret (results_row_tmp Try.results19 _ _ r 25 _ (0, 0) _ rfl HR5.out.here Try.underlying25 rfl (by kernel_rfl)) rfl ?_
      rw [HL.out]
      unfold LayPost
      rw [Hlay.out]
      have hpx : (P.lays x y n b M).length = pl := by rw [lays_length, HP.out.2.2.2.1, Hpl.out]
      have hpe : Pl.lays ⟨(W : Int), (H : Int), pix⟩ x y (n : Int).toNat b ((n : Int).toNat * (n : Int).toNat) = P.lays x y n b M := by
        rw [← HPe.out, Int.toNat_natCast, HM.out]
      rw [hpe]
      refine ⟨plV W H A3 pl c3, rfl, A3, c3, by rw [hpx], ?_⟩
      rw [hpx]
      refine ⟨HL2.out.own.own.fr HF5.out (fun k hk hm => ?_), HL2.out.own.fr.trans HF5.out (fun k hk => .inr ?_), HL2.out.own.new⟩
      · simp at hm; exact (HL2.out.ne k hk).2.1 hm
      · simp at hk
        have h1 := HL2.out.two.er
        have h2 := HL2.out.two.eg
        omega

theorem rlay_any (W H : Int) (A : Option Addr) (c : Nat) (pix : List UInt8) (x y n : Int) (Ab : Option Addr) (cb : Nat) (b : List UInt8) (w : World)
    (hs : Src w (.slice A pix.length c) (pix.map B8)) (hsb : Src w (.slice Ab b.length cb) (b.map B8)) (hn : pix.length ≤ 1000000000000) (hb : b.length ≤ 1000000000000)
    (hx1 : -9223372036854775808 ≤ x) (hx2 : x ≤ 9223372036854775807) (hy1 : -9223372036854775808 ≤ y) (hy2 : y ≤ 9223372036854775807) :
    Calls Try.prog 19 #[plV W H A pix.length c, .int .i64 x, .int .i64 y, .int .i64 n, .slice Ab b.length cb] w (LayPost w W H pix x y n b) := by
  by_cases h : ¬ (1 ≤ n ∧ n ≤ 64 ∧ (b.length : Int) = n * n) ∨ Pl.ok ⟨W, H, pix⟩ = false
  · exact rlay_bad W H A c pix x y n Ab cb b w hn hb h
  · have h1 : 1 ≤ n ∧ n ≤ 64 ∧ (b.length : Int) = n * n := Classical.byContradiction fun k => h (.inl k)
    have h2 : Pl.ok ⟨W, H, pix⟩ = true := by
      cases hk : Pl.ok ⟨W, H, pix⟩
      · exact absurd (.inr hk) h
      · rfl
    obtain ⟨⟨a1, a2⟩, ⟨b1, b2⟩, hl⟩ := Pl.ok_iff.1 h2
    simp only at a1 a2 b1 b2 hl
    obtain ⟨W', rfl⟩ : ∃ W' : Nat, W = (W' : Int) := ⟨W.toNat, by omega⟩
    obtain ⟨H', rfl⟩ : ∃ H' : Nat, H = (H' : Int) := ⟨H.toNat, by omega⟩
    obtain ⟨n', rfl⟩ : ∃ n' : Nat, n = (n' : Int) := ⟨n.toNat, by omega⟩
    have hbl : b.length = n' * n' := by
      have : (b.length : Int) = ((n' * n' : Nat) : Int) := by rw [h1.2.2]; simp
      omega
    exact rlay_good W' H' A c pix x y n' Ab cb b w hs hsb h2 (by omega) (by omega) hbl hx1 hx2 hy1 hy2
end Go.Proofs.Ytlcjlgdcleenlaa

/-
  Contracts of the document's planes: Half.
-/
namespace Go.Proofs.Ytlcjlgdcleenlaa
open Go.RowKit

theorem half_not {P : Pl} (h : ¬ (P.ok = true ∧ P.w % 2 = 0 ∧ P.h % 2 = 0)) : P.half = (plNone, 61) := by
  unfold Pl.half Pl.even
  rw [if_neg]
  simp only [Bool.and_eq_true, decide_eq_true_eq]
  exact fun k => h ⟨k.1.1, k.1.2, k.2⟩
theorem half_ok {P : Pl} (h : P.ok = true ∧ P.w % 2 = 0 ∧ P.h % 2 = 0) : P.half = (⟨P.w / 2, P.h / 2, (List.range ((P.w / 2).toNat * (P.h / 2).toNat)).map (P.halves (P.w / 2).toNat)⟩, 0) := by
  unfold Pl.half Pl.even
  rw [if_pos]
  simp only [Bool.and_eq_true, decide_eq_true_eq]
  exact ⟨⟨h.1, h.2.1⟩, h.2.2⟩

def HalfPost (w : World) (W H : Int) (pix : List UInt8) (e : Ending) (w' : World) : Prop :=
  ∃ u, e = .returned (.tuple #[u, .int .i64 (Pl.half ⟨W, H, pix⟩).2]) ∧ PlMine w w' u (Pl.half ⟨W, H, pix⟩).1

theorem tmod2_ne {W : Int} (h : W % 2 ≠ 0) : (W.tmod 2 != 0) = true := by
  have : W.tmod 2 ≠ 0 := fun e => h (Int.emod_eq_zero_of_dvd (Int.dvd_of_tmod_eq_zero e))
  simpa using this
theorem tmod2_eq {W : Int} (h : W % 2 = 0) : (W.tmod 2 != 0) = false := by
  have : W.tmod 2 = 0 := Int.tmod_eq_zero_of_dvd (Int.dvd_of_emod_eq_zero h)
  simp [this]

set_option maxRecDepth 20000 in
set_option maxHeartbeats 4000000 in
theorem rhalf_bad (W H : Int) (A : Option Addr) (c : Nat) (pix : List UInt8) (w : World) (hn : pix.length ≤ 1000000000000) (h : ¬ (Pl.ok ⟨W, H, pix⟩ = true ∧ W % 2 = 0 ∧ H % 2 = 0)) :
    Calls Try.prog 22 #[plV W H A pix.length c] w (HalfPost w W H pix) := by
  have HR := Lib.hid fun w => rright_pl W H A c pix w hn
  obtain ⟨R, hR⟩ : ∃ R, R = Pl.ok ⟨W, H, pix⟩ := ⟨_, rfl⟩
  have hend : ∀ w2, Fr [] w w2 → HalfPost w W H pix (.returned (.tuple #[plV 0 0 none 0 0, .int .i64 61])) w2 := by
    intro w2 h2
    unfold HalfPost
    rw [half_not h]
    exact ⟨_, rfl, plNone_mine h2⟩
  have hcase : R = false ∨ (R = true ∧ W % 2 ≠ 0) ∨ (R = true ∧ W % 2 = 0 ∧ H % 2 ≠ 0) := by
    by_cases h1 : R = true
    · by_cases h2 : W % 2 = 0
      · exact .inr (.inr ⟨h1, h2, fun h3 => h ⟨by rw [← hR, h1], h2, h3⟩⟩)
      · exact .inr (.inl ⟨h1, h2⟩)
    · exact .inl (by simpa using h1)
  rw [← hR] at HR
  have Hend := Lib.hid hend
  obtain ⟨L, hL⟩ : ∃ L, L = HalfPost w W H pix := ⟨_, rfl⟩
  rw [← hL] at Hend ⊢
  have HT := Lib.hid (two6 w #[.int .i64 W, .int .i64 H, .slice A pix.length c])
  clear hR hend h hL
  unfold plV at HR ⊢
  rcases hcase with rfl | ⟨rfl, h2⟩ | ⟨rfl, h2, h3⟩
  case' inr.inl =>
    have t1 := tmod2_ne h2
    clear h2
  case' inr.inr =>
    have t1 := tmod2_eq h2
    have t2 := tmod2_ne h3
    clear h2 h3
  all_goals
    go_enter Try.func22, Try.ntmps22
    go_upto_region 1 with fail
    generalize (w.alloc (.cells #[.int .i64 W, .int .i64 H, .slice A pix.length c] 25)).alloc (.cells #[.int .i64 0, .int .i64 0, .slice none 0 0] 25) = w1 at HT ⊢
    obtain ⟨g, hg⟩ : ∃ g, g = w.heap.size := ⟨_, rfl⟩
    rw [← hg] at HT ⊢
    obtain ⟨r, hr⟩ : ∃ r, r = g + 1 := ⟨_, rfl⟩
    rw [← hr] at HT ⊢
    clear hg hr
    have c0 := HT.out.bg.cell 0
    have c1 := HT.out.bg.cell 1
    have c2 := HT.out.bg.cell 2
    have hlg := HT.out.bg.lt
    simp at c0 c1 c2
    go_wp2_with fail
    refine (HR.out _).mono ?_
    rintro e w2 ⟨rfl, hF2⟩
    have HT2 := Lib.hid (HT.out.fr0 hF2)
    clear hF2 c0 c1 c2 hlg HT
    have c0 := HT2.out.bg.cell 0
    have c1 := HT2.out.bg.cell 1
    have hlg := HT2.out.bg.lt
    have d0 := HT2.out.br.cell 0
    have d1 := HT2.out.br.cell 1
    have d2 := HT2.out.br.cell 2
    have f0 := HT2.out.br.frozen 0
    have f1 := HT2.out.br.frozen 1
    have f2 := HT2.out.br.frozen 2
    have hlr := HT2.out.br.lt
    simp at c0 c1 d0 d1 d2
    have hb5 := ((HT2.out.br.set_ 0 (.int .i64 0)).set_ 1 (.int .i64 0)).set_ 2 (.slice none 0 0)
    have hf5 : Fr [] w (((w2.setCell ⟨r, 0, none⟩ (.int .i64 0)).setCell ⟨r, 1, none⟩ (.int .i64 0)).setCell ⟨r, 2, none⟩ (.slice none 0 0)) := by
      have hrw : w.heap.size ≤ r := by rw [HT2.out.er, HT2.out.eg]; omega
      exact ((HT2.out.fr.setCell (.inr hrw) _).setCell (.inr hrw) _).setCell (.inr hrw) _
    have HB5 := Lib.hid hb5; have HF5 := Lib.hid hf5
    clear hb5 hf5
    go_wp2_with fail
    refine bodyPost_ret (results_row_tmp Try.results22 _ _ r 25 _ (0, 0) _ rfl HB5.out.here Try.underlying25 rfl (by kernel_rfl)) rfl ?_
    exact Hend.out _ HF5.out
end Go.Proofs.Ytlcjlgdcleenlaa

/-
  Contracts of the document's planes: Half of an even plane.
-/
namespace Go.Proofs.Ytlcjlgdcleenlaa
open Go.RowKit

/-- The samples up to m are f's. -/
def Filled (f : Nat → UInt8) (n m : Nat) (px : List UInt8) : Prop := px.length = n ∧ ∀ k, k < m → px[k]? = some (f k)
theorem Filled.set {f : Nat → UInt8} {n m : Nat} {px : List UInt8} (h : Filled f n m px) (hm : m < n) : Filled f n (m + 1) (px.set m (f m)) := by
  refine ⟨by rw [List.length_set]; exact h.1, fun k hk => ?_⟩
  by_cases hkm : k = m
  · subst hkm; rw [List.getElem?_set_self (by rw [h.1]; exact hm)]
  · rw [List.getElem?_set_ne (by omega)]; exact h.2 k (by omega)
theorem Filled.whole {f : Nat → UInt8} {n : Nat} {px : List UInt8} (h : Filled f n n px) : px = (List.range n).map f := by
  apply List.ext_getElem?
  intro k
  by_cases hk : k < n
  · rw [h.2 k hk]; simp [hk]
  · rw [List.getElem?_eq_none (by rw [h.1]; omega), List.getElem?_eq_none (by simp; omega)]

set_option maxRecDepth 20000 in
set_option maxHeartbeats 8000000 in
theorem rhalf_good (a b : Nat) (A : Option Addr) (c : Nat) (pix : List UInt8) (w : World)
    (hs : Src w (.slice A pix.length c) (pix.map B8)) (hok : Pl.ok ⟨((2 * a : Nat) : Int), ((2 * b : Nat) : Int), pix⟩ = true) :
    Calls Try.prog 22 #[plV ((2 * a : Nat) : Int) ((2 * b : Nat) : Int) A pix.length c] w (HalfPost w ((2 * a : Nat) : Int) ((2 * b : Nat) : Int) pix) := by
  obtain ⟨W, hW⟩ : ∃ W, W = 2 * a := ⟨_, rfl⟩
  obtain ⟨H, hH⟩ : ∃ H, H = 2 * b := ⟨_, rfl⟩
  rw [← hW, ← hH] at hok ⊢
  obtain ⟨⟨a1, a2⟩, ⟨b1, b2⟩, hl⟩ := Pl.ok_iff.1 hok
  simp only at a1 a2 b1 b2 hl
  have hpl : pix.length ≤ 16777216 := by
    have h1 : W * H ≤ 4096 * 4096 := Nat.mul_le_mul (by omega) (by omega)
    have : (pix.length : Int) = ((W * H : Nat) : Int) := by rw [hl]; simp
    omega
  have HR := Lib.hid fun w => rright_pl W H A c pix w (by omega)
  rw [hok] at HR
  have HAt := Lib.hid fun (x y : Int) (w : World) (h : Src w (.slice A pix.length c) (pix.map B8)) => rat_pl W H A c pix x y w h (by omega)
  have hhalf := half_ok (P := ⟨W, H, pix⟩) ⟨hok, by simp only; omega, by simp only; omega⟩
  simp only at hhalf
  rw [show ((W : Int) / 2) = (a : Int) by omega, show ((H : Int) / 2) = (b : Int) by omega, Int.toNat_natCast, Int.toNat_natCast] at hhalf
  have t1 : ((W : Int) % 2 != 0) = false := by simp; omega
  have t2 : ((H : Int) % 2 != 0) = false := by simp; omega
  have q1 : (W : Int) / 2 = (a : Int) := by omega
  have q2 : (H : Int) / 2 = (b : Int) := by omega
  have hnew : plNew (a : Int) (b : Int) 0 = (⟨a, b, List.replicate (a * b) 0⟩, 0) := by
    unfold plNew
    rw [if_pos (by simp [sideOk]; omega)]
    simp
  have HNew := Lib.hid fun w => rnewP_any (a : Int) (b : Int) 0 w
  rw [hnew] at HNew
  obtain ⟨L, hL⟩ : ∃ L, L = HalfPost w W H pix := ⟨_, rfl⟩
  rw [← hL]
  have HT := Lib.hid (two6 w #[.int .i64 (W : Int), .int .i64 (H : Int), .slice A pix.length c])
  obtain ⟨P, hP⟩ : ∃ P : Pl, P = ⟨W, H, pix⟩ := ⟨_, rfl⟩
  have HP := Lib.hid hP; have Hhalf := Lib.hid hhalf; have HL := Lib.hid hL; have HS := Lib.hid hs; have Hok := Lib.hid hok
  obtain ⟨pl, hpll⟩ : ∃ pl, pl = pix.length := ⟨_, rfl⟩
  rw [← hpll] at HT HS HR HAt hpl ⊢
  have hab : a ≤ 2048 ∧ b ≤ 2048 ∧ 1 ≤ a ∧ 1 ≤ b := by omega
  obtain ⟨ab1, ab2, ab3, ab4⟩ := hab
  have HWH := Lib.hid (And.intro hW hH)
  clear hhalf hL hs hok hl hP hpll hnew hW hH
  unfold plV at HR HAt ⊢
  go_enter Try.func22, Try.ntmps22
  go_upto_region 1 with fail
  generalize (w.alloc (.cells #[.int .i64 (W : Int), .int .i64 (H : Int), .slice A pl c] 25)).alloc (.cells #[.int .i64 0, .int .i64 0, .slice none 0 0] 25) = w1 at HT ⊢
  obtain ⟨g, hg⟩ : ∃ g, g = w.heap.size := ⟨_, rfl⟩
  rw [← hg] at HT ⊢
  obtain ⟨r, hr⟩ : ∃ r, r = g + 1 := ⟨_, rfl⟩
  rw [← hr] at HT ⊢
  clear hg hr
  have c0 := HT.out.bg.cell 0
  have c1 := HT.out.bg.cell 1
  have c2 := HT.out.bg.cell 2
  have hlg := HT.out.bg.lt
  simp at c0 c1 c2
  go_wp2_with fail
  refine (HR.out _).mono ?_
  rintro e w2 ⟨rfl, hF2⟩
  have HT2 := Lib.hid (HT.out.fr0 hF2)
  clear hF2 c0 c1 c2 hlg HT
  have c0 := HT2.out.bg.cell 0
  have c1 := HT2.out.bg.cell 1
  have hlg := HT2.out.bg.lt
  simp at c0 c1
  go_wp2_with fail
  refine (HNew.out _).mono ?_
  rintro e w3 ⟨u, rfl, A3, c3, rfl, hM3⟩
  simp only at hM3
  rw [List.length_replicate] at hM3
  have HT3 := Lib.hid (HT2.out.fr0 hM3.fr)
  have hM3' : Mine w w3 (.slice A3 (a * b) c3) (List.replicate (a * b) 0) := ⟨hM3.own, HT3.out.fr, fun k hk => Nat.le_trans HT2.out.fr.size (hM3.new k hk)⟩
  have hne3 : ∀ k, (Value.slice A3 (a * b) c3).ownBlock = some k → k ≠ g ∧ k ≠ r := fun k hk => by
    have := hM3.new k hk
    have h1 := HT2.out.bg.lt
    have h2 := HT2.out.br.lt
    omega
  have HM3 := Lib.hid hM3'; have Hne3 := Lib.hid hne3
  unfold plV
  simp only
  rw [List.length_replicate]
  obtain ⟨N2, hN2⟩ : ∃ N2, N2 = a * b := ⟨_, rfl⟩
  rw [← hN2] at HM3 Hne3 ⊢
  have hN2l : N2 ≤ 4194304 := by rw [hN2]; exact Nat.mul_le_mul ab1 ab2
  have HN2 := Lib.hid hN2
  clear hM3 hM3' hne3 c0 c1 hlg HT2 hN2
  go_upto_region 5 with fail
  have hq := Blk.new w3 25 #[.int .i64 (a : Int), .int .i64 (b : Int), .slice A3 N2 c3]
  have hLA : LayAt w (w3.alloc (.cells #[.int .i64 (a : Int), .int .i64 (b : Int), .slice A3 N2 c3] 25)) g r w3.heap.size #[.int .i64 (W : Int), .int .i64 (H : Int), .slice A pl c] a b A3 N2 c3 (List.replicate N2 0) := by
    have hf : Fr [] w3 (w3.alloc (.cells #[.int .i64 (a : Int), .int .i64 (b : Int), .slice A3 N2 c3] 25)) := (Fr.refl _ _).alloc _
    refine ⟨HT3.out.fr0 hf, hq, HM3.out.fr0 hf, fun k hk => ⟨(Hne3.out k hk).1, (Hne3.out k hk).2, ?_⟩⟩
    have := HM3.out.own.lt k hk
    omega
  generalize w3.alloc (.cells #[.int .i64 (a : Int), .int .i64 (b : Int), .slice A3 N2 c3] 25) = w4 at hLA ⊢
  obtain ⟨q, hqq⟩ : ∃ q, q = w3.heap.size := ⟨_, rfl⟩
  rw [← hqq] at hLA ⊢
  have HLA := Lib.hid hLA
  clear hq hLA hqq HT3 HM3 Hne3 HR HNew
  obtain ⟨F, hF⟩ : ∃ F, F = P.halves a := ⟨_, rfl⟩
  have HFe := Lib.hid hF
  have hFill : Filled F N2 0 (List.replicate N2 0) := ⟨by simp, by omega⟩
  have HFill := Lib.hid hFill
  have HAt2 : Hid (∀ (x y : Int) (wr : World), Src wr (.slice A pl c) (pix.map B8) → Calls Try.prog 48 #[.agg #[.int .i64 (W : Int), .int .i64 (H : Int), .slice A pl c], .int .i64 x, .int .i64 y] wr fun e w' => e = .returned (.int .u8 ((P.smp x y).toNat : Int)) ∧ Fr [] wr w') := Lib.hid fun x y wr h => by
    have := HAt.out x y wr h
    unfold Pl.at_ at this
    rw [Hok.out, ← HP.out] at this
    exact this
  clear hF hFill HAt
  go_wp2_with fail
  go_loopw [7] (fun s7 wr => ∃ (y : Nat) (px : List UInt8), y ≤ b ∧ s7 = .int .i64 (y : Int) ∧ Filled F N2 (y * a) px ∧ LayAt w wr g r q #[.int .i64 (W : Int), .int .i64 (H : Int), .slice A pl c] a b A3 N2 c3 px) (fun s7 _ => b - (intOf s7).toNat)
  case atStart => exact ⟨0, _, by omega, rfl, by rw [Nat.zero_mul]; exact HFill.out, HLA.out⟩
  case round =>
    obtain ⟨y, px, hy, rfl, hfl, hLA⟩ := hrel
    have k0 := hLA.out.cell 0
    have k1 := hLA.out.cell 1
    have k2 := hLA.out.cell 2
    have hlq := hLA.out.lt
    simp at k0 k1 k2
    by_cases hlt : y < b
    · have eg : decide (y < b) = true := by simpa using hlt
      have HLy := Lib.hid hLA; have HFy := Lib.hid hfl
      clear hLA hfl HLA HFill
      go_wp2_with fail
      go_loopw [8] (fun s8 wr => ∃ (x : Nat) (px : List UInt8), x ≤ a ∧ s8 = .int .i64 (x : Int) ∧ Filled F N2 (y * a + x) px ∧ LayAt w wr g r q #[.int .i64 (W : Int), .int .i64 (H : Int), .slice A pl c] a b A3 N2 c3 px) (fun s8 _ => a - (intOf s8).toNat)
      case atStart => exact ⟨0, px, by omega, rfl, HFy.out, HLy.out⟩
      case round =>
        clear k0 k1 k2 hlq
        obtain ⟨x, px, hx, rfl, hfl, hLA⟩ := hrel
        have k0 := hLA.out.cell 0
        have k1 := hLA.out.cell 1
        have k2 := hLA.out.cell 2
        have hlq := hLA.out.lt
        simp at k0 k1 k2
        by_cases hlt2 : x < a
        · have eg2 : decide (x < a) = true := by simpa using hlt2
          have HLx := Lib.hid hLA; have HFx := Lib.hid hfl
          clear hLA hfl HLy HFy
          go_wp2_with fail
          go_loopw [9, 10] (fun s9 s10 wr => ∃ k : Nat, k ≤ 4 ∧ s10 = .int .i64 (k : Int) ∧ s9 = .int .i64 (P.fourTo x y k : Int) ∧ LayAt w wr g r q #[.int .i64 (W : Int), .int .i64 (H : Int), .slice A pl c] a b A3 N2 c3 px) (fun _ s10 _ => 4 - (intOf s10).toNat)
          case atStart => exact ⟨0, by omega, rfl, rfl, HLx.out⟩
          case round =>
            clear k0 k1 k2 hlq
            obtain ⟨k, hk, rfl, rfl, hLA⟩ := hrel
            have hfour := fourTo_le P x y k
            obtain ⟨S, hS⟩ : ∃ S, S = P.fourTo x y k := ⟨_, rfl⟩
            rw [← hS] at hfour ⊢
            have hSl : S ≤ 1022 := by omega
            by_cases hlt3 : k < 4
            · have eg3 : decide ((k : Int) < 4) = true := by simp; omega
              have c0 := hLA.two.bg.cell 0
              have c1 := hLA.two.bg.cell 1
              have c2 := hLA.two.bg.cell 2
              have hlg := hLA.two.bg.lt
              simp at c0 c1 c2
              have HC := Lib.hid fun x y => HAt2.out x y wr (HS.out.fr0 hLA.two.fr)
              have HLk := Lib.hid hLA
              have hnext : P.fourTo x y (k + 1) = S + (P.smp (2 * (x : Int) + ((k % 2 : Nat) : Int)) (2 * (y : Int) + ((k / 2 : Nat) : Int))).toNat := by rw [hS]; rfl
              have Hnext := Lib.hid hnext
              clear hLA hS hfour hnext HLx
              go_wp2_with fail
              refine (HC.out _ _).mono ?_
              rintro e w5 ⟨rfl, hF5⟩
              obtain ⟨z, hz⟩ : ∃ z, z = P.smp (2 * (x : Int) + ((k % 2 : Nat) : Int)) (2 * (y : Int) + ((k / 2 : Nat) : Int)) := ⟨_, rfl⟩
              rw [show P.smp (2 * (x : Int) + (k : Int) % 2) (2 * (y : Int) + (k : Int) / 2) = z by rw [hz]; simp]
              have hzl := z.toNat_lt
              have hL5 := HLk.out.fr0 hF5
              have hn2 : P.fourTo x y (k + 1) = S + z.toNat := by rw [Hnext.out, hz]
              have HL5 := Lib.hid hL5; have Hn2 := Lib.hid hn2
              have vz : IntKind.i64.wrap (z.toNat : Int) = (z.toNat : Int) := IntWalk.i64_in _ (by omega)
              clear hF5 hL5 hn2 hz c0 c1 c2 hlg HC HLk Hnext
              go_wp2_with fail
              exact ⟨⟨k + 1, by omega, by simp, by rw [Hn2.out]; simp, HL5.out⟩, by simp [intOf]; omega⟩
            · have eg3 : decide ((k : Int) < 4) = false := by simp; omega
              have hk4 : k = 4 := by omega
              have hS4 : S = P.four x y := by rw [hS, hk4]; rfl
              have k0 := hLA.out.cell 0
              have k2 := hLA.out.cell 2
              have hlq := hLA.out.lt
              simp at k0 k2
              obtain ⟨YA, hYA⟩ : ∃ YA, YA = y * a := ⟨_, rfl⟩
              obtain ⟨K, hK⟩ : ∃ K, K = YA + x := ⟨_, rfl⟩
              have hKl : K < N2 := by
                have := cell_lt hlt2 hlt
                rw [hK, hYA, HN2.out]
                exact this
              have eYA : (y : Int) * (a : Int) = (YA : Int) := by rw [hYA]; simp
              have eK : (YA : Int) + (x : Int) = (K : Int) := by rw [hK]; simp
              obtain ⟨z, hz⟩ : ∃ z : UInt8, z = UInt8.ofNat (S / 4) := ⟨_, rfl⟩
              have hzn : z.toNat = S / 4 := by rw [hz]; simp; omega
              have ez : (S : Int) / 4 = (z.toNat : Int) := by omega
              have hzl := z.toNat_lt
              have ez2 : (z.toNat : Int) % 256 = (z.toNat : Int) := by omega
              have vz : IntKind.u8.wrap (z.toNat : Int) = (z.toNat : Int) := IntWalk.u8_in _ (by omega)
              have hFK : z = F K := by
                rw [HFe.out]
                unfold Pl.halves
                rw [hK, hYA, Nat.mul_comm y a, Nat.mul_add_mod, Nat.mod_eq_of_lt hlt2, Nat.mul_add_div (by omega), Nat.div_eq_of_lt hlt2, Nat.add_zero, ← hS4, hz]
              obtain ⟨x3, hA3, ⟨z0, cx⟩, fx, hst⟩ := hLA.store (k := K) (by rw [HFx.out.1]; exact hKl)
              have hst' := hst z
              have hfl2 : Filled F N2 (y * a + (x + 1)) (px.set K z) := by
                rw [hFK, ← Nat.add_assoc, ← hYA, ← hK]
                have := HFx.out
                rw [← hYA, ← hK] at this
                exact this.set hKl
              have HL5 := Lib.hid hst'; have HF5 := Lib.hid hfl2
              rw [hA3] at k2
              have HA3 := Lib.hid hA3
              clear hLA hS hfour hst hst' hfl2 hYA hK hz hzn hFK hk4 hS4 HLx HFx hA3
              go_wp2_with fail
              exact ⟨⟨x + 1, px.set K z, by omega, by simp, HF5.out, HL5.out⟩, by simp [intOf]; omega⟩
        · have eg2 : decide (x < a) = false := by simpa using hlt2
          have hxa : x = a := by omega
          have hfl2 : Filled F N2 ((y + 1) * a) px := by
            rw [hxa] at hfl
            rw [Nat.add_mul, Nat.one_mul]
            exact hfl
          have HL5 := Lib.hid hLA; have HF5 := Lib.hid hfl2
          clear hLA hfl hfl2 hxa HLy HFy
          go_wp2_with fail
          exact ⟨⟨y + 1, px, by omega, by simp, HF5.out, HL5.out⟩, by simp [intOf]; omega⟩
    · have eg : decide (y < b) = false := by simpa using hlt
      have hyb : y = b := by omega
      have hfl2 : px = (List.range N2).map F := by
        rw [hyb, Nat.mul_comm, ← HN2.out] at hfl
        exact hfl.whole
      have d0 := hLA.two.br.cell 0
      have d1 := hLA.two.br.cell 1
      have d2 := hLA.two.br.cell 2
      have f0 := hLA.two.br.frozen 0
      have f1 := hLA.two.br.frozen 1
      have f2 := hLA.two.br.frozen 2
      have hlr := hLA.two.br.lt
      simp at d0 d1 d2
      have hr5 := ((hLA.two.br.set_ 0 (.int .i64 (a : Int))).set_ 1 (.int .i64 (b : Int))).set_ 2 (.slice A3 N2 c3)
      have hf5 : Fr [r] wr (((wr.setCell ⟨r, 0, none⟩ (.int .i64 (a : Int))).setCell ⟨r, 1, none⟩ (.int .i64 (b : Int))).setCell ⟨r, 2, none⟩ (.slice A3 N2 c3)) := (((Fr.refl [r] wr).setCell (.inl (by simp)) _).setCell (.inl (by simp)) _).setCell (.inl (by simp)) _
      have HR5 := Lib.hid hr5; have HF5 := Lib.hid hf5; have HL5 := Lib.hid hLA; have Hfl := Lib.hid hfl2
      clear hr5 hf5 hLA hfl hfl2 hyb HLA HFill
      go_wp2_with fail
      refine bodyPost_ret (results_row_tmp Try.results22 _ _ r 25 _ (0, 0) _ rfl HR5.out.here Try.underlying25 rfl (by kernel_rfl)) rfl ?_
      rw [HL.out]
      unfold HalfPost
      rw [Hhalf.out]
      have hpx : (List.map (Pl.halves ⟨(W : Int), (H : Int), pix⟩ a) (List.range (a * b))).length = N2 := by rw [HN2.out]; simp
      have hpe : List.map (Pl.halves ⟨(W : Int), (H : Int), pix⟩ a) (List.range (a * b)) = px := by rw [Hfl.out, HFe.out, HP.out, HN2.out]
      refine ⟨plV a b A3 N2 c3, rfl, A3, c3, by rw [hpx], ?_⟩
      rw [hpx, hpe]
      refine ⟨HL5.out.own.own.fr HF5.out (fun k hk hm => ?_), HL5.out.own.fr.trans HF5.out (fun k hk => .inr ?_), HL5.out.own.new⟩
      · simp at hm; exact (HL5.out.ne k hk).2.1 hm
      · simp at hk
        have h1 := HL5.out.two.er
        have h2 := HL5.out.two.eg
        omega

theorem rhalf_any (W H : Int) (A : Option Addr) (c : Nat) (pix : List UInt8) (w : World) (hs : Src w (.slice A pix.length c) (pix.map B8)) (hn : pix.length ≤ 1000000000000) :
    Calls Try.prog 22 #[plV W H A pix.length c] w (HalfPost w W H pix) := by
  by_cases h : Pl.ok ⟨W, H, pix⟩ = true ∧ W % 2 = 0 ∧ H % 2 = 0
  · obtain ⟨h1, h2, h3⟩ := h
    obtain ⟨⟨a1, a2⟩, ⟨b1, b2⟩, hl⟩ := Pl.ok_iff.1 h1
    simp only at a1 a2 b1 b2
    obtain ⟨a, rfl⟩ : ∃ a : Nat, W = ((2 * a : Nat) : Int) := ⟨(W / 2).toNat, by omega⟩
    obtain ⟨b, rfl⟩ : ∃ b : Nat, H = ((2 * b : Nat) : Int) := ⟨(H / 2).toNat, by omega⟩
    exact rhalf_good a b A c pix w hs h1
  · exact rhalf_bad W H A c pix w hn h
end Go.Proofs.Ytlcjlgdcleenlaa

/-
  string(b) of bytes that are known: the string of these bytes.
-/
namespace Go.Proofs.Ytlcjlgdcleenlaa
open Go.RowKit

/-- The string of bytes. -/
def strOf (xs : List UInt8) : ByteArray := ⟨xs.toArray⟩

theorem strOf_inj {a b : List UInt8} (h : strOf a = strOf b) : a = b := by
  have := congrArg (fun s : ByteArray => s.data.toList) h
  simpa [strOf] using this

theorem fold_push (xs : List UInt8) : ∀ s : ByteArray, (xs.map fun x => (x.toNat : Int)).foldl (fun r n => r.push (UInt8.ofNat n.toNat)) s = ⟨s.data ++ xs.toArray⟩ := by
  induction xs with
  | nil => intro s; simp
  | cons x xs ih =>
    intro s
    rw [List.map_cons, List.foldl_cons, ih]
    have : UInt8.ofNat ((x.toNat : Int)).toNat = x := by simp
    rw [this]
    congr 1
    apply Array.ext'
    simp [ByteArray.push]

theorem run_string {w : World} {v : Value} {xs : List UInt8} (hs : Src w v (xs.map B8)) : (convert 23 9 v).run Try.prog w = .ok (.string (strOf xs)) w := by
  rcases hs with ⟨rfl, h0⟩ | ⟨ad, c, rfl, _, hc⟩
  · rw [List.map_eq_nil_iff.1 h0]
    rw [run_convert_bytes_string w _ _ 5 none 0 0 Try.underlying23 Try.underlying5 Try.underlying9]
    rfl
  · rw [run_convert_bytes_string w _ _ 5 (some ad) _ c Try.underlying23 Try.underlying5 Try.underlying9]
    have h1 := run_loadCells_list (P := Try.prog) w ad (xs.map B8) hc
    have e : (xs.map B8) = (xs.map fun x => (x.toNat : Int)).map (Value.int .u8) := by simp [B8]
    rw [e] at h1
    rw [run_bytesToString w ad _ c (xs.map fun x => (x.toNat : Int)) (by rw [e]; exact h1), fold_push]
    simp [strOf, ByteArray.empty, ByteArray.emptyWithCapacity]
    rfl

/-- The conversion, kept closed: it is met by what is known of its argument alone. -/
def cv (v : Value) : Sem Value := convert 23 9 v
theorem cv_rule (v : Value) : convert 23 9 v = cv v := rfl
theorem run_cv {w : World} {v : Value} {xs : List UInt8} (hs : Src w v (xs.map B8)) : (cv v).run Try.prog w = .ok (.string (strOf xs)) w := run_string hs
end Go.Proofs.Ytlcjlgdcleenlaa

/-
  Strings of known bytes compared.
-/
namespace Go.Proofs.Ytlcjlgdcleenlaa
open Go.RowKit

theorem strOf_beq (a b : List UInt8) : ((strOf a).toList == (strOf b).toList) = decide (a = b) := by
  rw [ByteArray.toList_eq, ByteArray.toList_eq]
  have e : ∀ l : List UInt8, (strOf l).data.toList = l := fun l => by simp [strOf]
  rw [e, e]
  by_cases h : a = b
  · simp [h]
  · simp [h]
end Go.Proofs.Ytlcjlgdcleenlaa

/-
  Contracts of the document's frames: SamePlane, Same, Whole.
-/
namespace Go.Proofs.Ytlcjlgdcleenlaa
open Go.RowKit

attribute [local go_sem ↓] cv_rule

def samePl (P Q : Pl) : Bool := decide (P.w = Q.w) && decide (P.h = Q.h) && decide (P.pix = Q.pix)

set_option maxRecDepth 20000 in
theorem rsameP_any (W H : Int) (A : Option Addr) (n c : Nat) (px : List UInt8) (W' H' : Int) (A' : Option Addr) (n' c' : Nat) (py : List UInt8) (w : World)
    (hs : Src w (.slice A n c) (px.map B8)) (hs' : Src w (.slice A' n' c') (py.map B8)) :
    Calls Try.prog 15 #[plV W H A n c, plV W' H' A' n' c'] w fun e w' => e = .returned (.bool (samePl ⟨W, H, px⟩ ⟨W', H', py⟩)) ∧ Fr [] w w' := by
  have hT := box2 w #[.int .i64 W, .int .i64 H, .slice A n c] #[.int .i64 W', .int .i64 H', .slice A' n' c']
  have HT := Lib.hid hT; have HS := Lib.hid hs; have HS' := Lib.hid hs'
  clear hT hs hs'
  unfold plV
  obtain ⟨R, hR⟩ : ∃ R, R = samePl ⟨W, H, px⟩ ⟨W', H', py⟩ := ⟨_, rfl⟩
  rw [← hR]
  have hcase : (W ≠ W' ∧ R = false) ∨ (W = W' ∧ H ≠ H' ∧ R = false) ∨ (W = W' ∧ H = H' ∧ R = decide (px = py)) := by
    unfold samePl at hR
    simp only at hR
    by_cases h1 : W = W'
    · by_cases h2 : H = H'
      · exact .inr (.inr ⟨h1, h2, by rw [hR]; simp [h1, h2]⟩)
      · exact .inr (.inl ⟨h1, h2, by rw [hR]; simp [h2]⟩)
    · exact .inl ⟨h1, by rw [hR]; simp [h1]⟩
  clear hR
  rcases hcase with ⟨h1, rfl⟩ | ⟨rfl, h2, rfl⟩ | ⟨rfl, rfl, hR⟩
  case' inl =>
    have t1 : (W == W') = false := by simpa using h1
    clear h1
  case' inr.inl =>
    have t1 : (W == W) = true := by simp
    have t2 : (H == H') = false := by simpa using h2
    clear h2
  case' inr.inr =>
    have t1 : (W == W) = true := by simp
    have t2 : (H == H) = true := by simp
    have HRr := Lib.hid hR
    clear hR
  all_goals
    go_enter Try.func15, Try.ntmps15
    go_upto_region 1 with fail
    generalize World.alloc (World.alloc w _) _ = w1 at HT ⊢
    obtain ⟨g, hg⟩ : ∃ g, g = w.heap.size := ⟨_, rfl⟩
    rw [← hg] at HT ⊢
    obtain ⟨r, hr⟩ : ∃ r, r = g + 1 := ⟨_, rfl⟩
    rw [← hr] at HT ⊢
    clear hg hr
    have c0 := HT.out.bg.cell 0
    have c1 := HT.out.bg.cell 1
    have c2 := HT.out.bg.cell 2
    have hlg := HT.out.bg.lt
    have d0 := HT.out.br.cell 0
    have d1 := HT.out.br.cell 1
    have d2 := HT.out.br.cell 2
    have hlr := HT.out.br.lt
    have s1 := run_cv (HS.out.fr0 HT.out.fr)
    have s2 := run_cv (HS'.out.fr0 HT.out.fr)
    simp at c0 c1 c2 d0 d1 d2
    go_wp2_with fail
  all_goals try (go_ret; exact ⟨rfl, HT.out.fr⟩)
  go_ret
  refine ⟨?_, HT.out.fr⟩
  show Ending.returned (.bool ((strOf px).toList == (strOf py).toList)) = _
  rw [strOf_beq, HRr.out]

/-- Two blocks of one type behind a world. -/
structure PairT (t : TypeId) (w w1 : World) (g r : Nat) (cs ds : Array Value) : Prop where
  fr : Fr [] w w1
  eg : g = w.heap.size
  er : r = g + 1
  bg : Blk w1 g t cs
  br : Blk w1 r t ds
theorem pairT (t : TypeId) (w : World) (cs ds : Array Value) : PairT t w ((w.alloc (.cells cs t)).alloc (.cells ds t)) w.heap.size (w.heap.size + 1) cs ds := by
  refine ⟨((Fr.refl _ _).alloc _).alloc _, rfl, rfl, (Blk.new w t cs).alloc _, ?_⟩
  have := Blk.new (w.alloc (.cells cs t)) t ds
  rw [World.size_alloc] at this
  exact this
theorem PairT.fr0 {t : TypeId} {w w1 w2 : World} {g r : Nat} {cs ds : Array Value} (h : PairT t w w1 g r cs ds) (hf : Fr [] w1 w2) : PairT t w w2 g r cs ds :=
  ⟨h.fr.trans hf (by simp), h.eg, h.er, h.bg.fr hf (by simp), h.br.fr hf (by simp)⟩

/-! Frames as values: nine cells. -/
structure FrAt where
  W : Int
  H : Int
  A : Option Addr
  n : Nat
  c : Nat
def FrAt.cells (y u v : FrAt) : Array Value := #[.int .i64 y.W, .int .i64 y.H, .slice y.A y.n y.c, .int .i64 u.W, .int .i64 u.H, .slice u.A u.n u.c, .int .i64 v.W, .int .i64 v.H, .slice v.A v.n v.c]
def frV (y u v : FrAt) : Value := .agg (FrAt.cells y u v)
/-- The plane that is there. -/
def FrAt.has (a : FrAt) (w : World) (P : Pl) : Prop := a.W = P.w ∧ a.H = P.h ∧ a.n = P.pix.length ∧ Src w (.slice a.A a.n a.c) (P.pix.map B8)
theorem FrAt.has.fr0 {a : FrAt} {w w' : World} {P : Pl} (h : a.has w P) (hf : Fr [] w w') : a.has w' P := ⟨h.1, h.2.1, h.2.2.1, h.2.2.2.fr0 hf⟩
def sameFr (F G : Frm) : Bool := samePl F.y G.y && samePl F.u G.u && samePl F.v G.v

set_option maxRecDepth 20000 in
set_option maxHeartbeats 4000000 in
theorem rsameF_any (y u v y' u' v' : FrAt) (F G : Frm) (w : World) (h1 : y.has w F.y) (h2 : u.has w F.u) (h3 : v.has w F.v) (k1 : y'.has w G.y) (k2 : u'.has w G.u) (k3 : v'.has w G.v) :
    Calls Try.prog 16 #[frV y u v, frV y' u' v'] w fun e w' => e = .returned (.bool (sameFr F G)) ∧ Fr [] w w' := by
  have hS : ∀ (a b : FrAt) (P Q : Pl) (W : World), a.has W P → b.has W Q → Calls Try.prog 15 #[.agg #[.int .i64 a.W, .int .i64 a.H, .slice a.A a.n a.c], .agg #[.int .i64 b.W, .int .i64 b.H, .slice b.A b.n b.c]] W fun e w' => e = .returned (.bool (samePl P Q)) ∧ Fr [] W w' := by
    intro a b P Q W ha hb
    obtain ⟨e1, e2, -, e4⟩ := ha
    obtain ⟨e5, e6, -, e8⟩ := hb
    have := rsameP_any a.W a.H a.A a.n a.c P.pix b.W b.H b.A b.n b.c Q.pix W e4 e8
    rw [show (⟨a.W, a.H, P.pix⟩ : Pl) = P by rw [e1, e2], show (⟨b.W, b.H, Q.pix⟩ : Pl) = Q by rw [e5, e6]] at this
    exact this
  have HS := Lib.hid hS
  have HA := Lib.hid (And.intro h1 (And.intro h2 (And.intro h3 (And.intro k1 (And.intro k2 k3)))))
  clear hS h1 h2 h3 k1 k2 k3
  obtain ⟨yW, yH, yA, yn, yc⟩ := y
  obtain ⟨uW, uH, uA, un, uc⟩ := u
  obtain ⟨vW, vH, vA, vn, vc⟩ := v
  obtain ⟨yW', yH', yA', yn', yc'⟩ := y'
  obtain ⟨uW', uH', uA', un', uc'⟩ := u'
  obtain ⟨vW', vH', vA', vn', vc'⟩ := v'
  have hT := pairT 30 w (FrAt.cells ⟨yW, yH, yA, yn, yc⟩ ⟨uW, uH, uA, un, uc⟩ ⟨vW, vH, vA, vn, vc⟩) (FrAt.cells ⟨yW', yH', yA', yn', yc'⟩ ⟨uW', uH', uA', un', uc'⟩ ⟨vW', vH', vA', vn', vc'⟩)
  have HS1 := Lib.hid fun W h => HS.out ⟨yW, yH, yA, yn, yc⟩ ⟨yW', yH', yA', yn', yc'⟩ F.y G.y W (HA.out.1.fr0 h) (HA.out.2.2.2.1.fr0 h)
  have HS2 := Lib.hid fun W h => HS.out ⟨uW, uH, uA, un, uc⟩ ⟨uW', uH', uA', un', uc'⟩ F.u G.u W (HA.out.2.1.fr0 h) (HA.out.2.2.2.2.1.fr0 h)
  have HS3 := Lib.hid fun W h => HS.out ⟨vW, vH, vA, vn, vc⟩ ⟨vW', vH', vA', vn', vc'⟩ F.v G.v W (HA.out.2.2.1.fr0 h) (HA.out.2.2.2.2.2.fr0 h)
  simp only at HS1 HS2 HS3
  unfold FrAt.cells at hT
  simp only at hT
  have HT := Lib.hid hT
  clear hT HS HA
  obtain ⟨R, hR⟩ : ∃ R, R = sameFr F G := ⟨_, rfl⟩
  rw [← hR]
  have HRr := Lib.hid hR
  clear hR
  unfold frV FrAt.cells
  simp only
  go_enter Try.func16, Try.ntmps16
  go_upto_region 1 with fail
  generalize World.alloc (World.alloc w _) _ = w1 at HT ⊢
  obtain ⟨g, hg⟩ : ∃ g, g = w.heap.size := ⟨_, rfl⟩
  rw [← hg] at HT ⊢
  obtain ⟨r, hr⟩ : ∃ r, r = g + 1 := ⟨_, rfl⟩
  rw [← hr] at HT ⊢
  clear hg hr
  have c0 := HT.out.bg.cell 0
  have c1 := HT.out.bg.cell 1
  have c2 := HT.out.bg.cell 2
  have d0 := HT.out.br.cell 0
  have d1 := HT.out.br.cell 1
  have d2 := HT.out.br.cell 2
  have hlg := HT.out.bg.lt
  have hlr := HT.out.br.lt
  simp at c0 c1 c2 d0 d1 d2
  go_wp2_with fail
  refine (HS1.out _ HT.out.fr).mono ?_
  rintro e w2 ⟨rfl, hF2⟩
  have HT2 := Lib.hid (HT.out.fr0 hF2)
  clear hF2 c0 c1 c2 d0 d1 d2 hlg hlr HT
  have c0 := HT2.out.bg.cell 3
  have c1 := HT2.out.bg.cell 4
  have c2 := HT2.out.bg.cell 5
  have d0 := HT2.out.br.cell 3
  have d1 := HT2.out.br.cell 4
  have d2 := HT2.out.br.cell 5
  have hlg := HT2.out.bg.lt
  have hlr := HT2.out.br.lt
  simp at c0 c1 c2 d0 d1 d2
  go_wp2_with fail
  refine (HS2.out _ HT2.out.fr).mono ?_
  rintro e w3 ⟨rfl, hF3⟩
  have HT3 := Lib.hid (HT2.out.fr0 hF3)
  clear hF3 c0 c1 c2 d0 d1 d2 hlg hlr HT2
  have c0 := HT3.out.bg.cell 6
  have c1 := HT3.out.bg.cell 7
  have c2 := HT3.out.bg.cell 8
  have d0 := HT3.out.br.cell 6
  have d1 := HT3.out.br.cell 7
  have d2 := HT3.out.br.cell 8
  have hlg := HT3.out.bg.lt
  have hlr := HT3.out.br.lt
  simp at c0 c1 c2 d0 d1 d2
  go_wp2_with fail
  refine (HS3.out _ HT3.out.fr).mono ?_
  rintro e w4 ⟨rfl, hF4⟩
  have HF4 := Lib.hid (HT3.out.fr.trans hF4 (by simp))
  clear hF4 c0 c1 c2 d0 d1 d2 hlg hlr HT3
  unfold sameFr at HRr
  cases b1 : samePl F.y G.y
  · rw [b1] at HRr
    go_wp2_with fail
    go_ret
    exact ⟨by rw [HRr.out]; rfl, HF4.out⟩
  · cases b2 : samePl F.u G.u
    · rw [b1, b2] at HRr
      go_wp2_with fail
      go_ret
      exact ⟨by rw [HRr.out]; rfl, HF4.out⟩
    · rw [b1, b2] at HRr
      go_wp2_with fail
      go_ret
      exact ⟨by rw [HRr.out]; simp, HF4.out⟩
end Go.Proofs.Ytlcjlgdcleenlaa
