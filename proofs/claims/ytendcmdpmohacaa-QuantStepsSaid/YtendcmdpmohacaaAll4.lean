/-
  What several laws' proofs lean on, part 4; each part says its conditions below.
-/
import Derived.Laws.CopyOwn
import Derived.Lib.SliceRun
import Derived.Test.YtendcmdpmohacaaRows
import Derived.Test.YtendcmdpmohacaaAll1
import Derived.Test.YtendcmdpmohacaaAll2
import Derived.Test.YtendcmdpmohacaaAll3
/-
  Contracts of the document's quant: Fine. Conditions: blocks of bounded length.
-/
namespace Go.Proofs.Ytendcmdpmohacaa
open Go.RowKit

def fineTo (b : List Int) (q i : Nat) : List Int := (List.range i).map fun j => numAt b j * stepsAt q b.length j
theorem fineTo_length (b : List Int) (q i : Nat) : (fineTo b q i).length = i := by simp [fineTo]
theorem fineTo_succ (b : List Int) (q i : Nat) : fineTo b q (i + 1) = fineTo b q i ++ [numAt b i * stepsAt q b.length i] := by
  unfold fineTo
  rw [List.range_succ, List.map_append]
  rfl
theorem mul_le {v s m t : Int} (h1 : -m ≤ v) (h2 : v ≤ m) (h3 : 0 ≤ s) (h4 : s ≤ t) (hm : 0 ≤ m) : -(m * t) ≤ v * s ∧ v * s ≤ m * t := by
  have a1 : v * s ≤ m * s := Int.mul_le_mul_of_nonneg_right h2 h3
  have a2 : -m * s ≤ v * s := Int.mul_le_mul_of_nonneg_right h1 h3
  have a3 : m * s ≤ m * t := Int.mul_le_mul_of_nonneg_left h4 hm
  rw [Int.neg_mul] at a2
  omega

set_option maxRecDepth 20000 in
set_option maxHeartbeats 4000000 in
theorem rfine_any (A : Option Addr) (c : Nat) (b : List Int) (q : Int) (w : World) (hs : Src w (.slice A b.length c) (b.map I64)) (hb : b.length ≤ 1000000) :
    Calls Try.prog 18 #[.slice A b.length c, .int .i64 q] w (NumErr w (fineL b q)) := by
  have HRi := Lib.hid (rright8_any A c b q 67108864 w hs hb (by omega) (by omega))
  obtain ⟨R, hR⟩ : ∃ R, R = fineL b q := ⟨_, rfl⟩
  rw [← hR]
  unfold fineL at hR
  cases hgood : rightQ b q 67108864
  · rw [hgood] at HRi hR
    rw [if_neg (by simp)] at hR
    have HR := Lib.hid hR
    clear hR hgood hb hs
    obtain ⟨n, hn⟩ : ∃ n, n = b.length := ⟨_, rfl⟩
    rw [← hn] at HRi ⊢
    clear hn
    go_enter Try.func18, Try.ntmps18
    go_wp2_with fail
    refine HRi.out.mono ?_
    rintro e w1 ⟨rfl, rfl⟩
    go_wp2_with fail
    go_ret2
    exact NumErr.none HR.out (Fr.refl _ _)
  · rw [hgood] at HRi hR
    rw [if_pos rfl] at hR
    obtain ⟨hlen, ⟨q1, q2⟩, hwi⟩ := right_parts hgood
    obtain ⟨Q, rfl⟩ : ∃ Q : Nat, q = (Q : Int) := ⟨q.toNat, by omega⟩
    rw [Int.toNat_natCast] at hR
    have hQ : Q ≤ 31 := by omega
    have hR2 : R = if withinB (fineTo b Q b.length) 67108864 then (fineTo b Q b.length, 0) else ([], 1) := hR
    have hRi2 : ∀ W B d, Src W (.slice B b.length d) ((fineTo b Q b.length).map I64) → Calls Try.prog 38 #[.slice B b.length d, .int .i64 (Q : Int), .int .i64 67108864] W fun e w' => e = .returned (.bool (withinB (fineTo b Q b.length) 67108864)) ∧ w' = W := by
      intro W B d h
      have hl := fineTo_length b Q b.length
      have := rright8_any B d (fineTo b Q b.length) (Q : Int) 67108864 W (by rw [hl]; exact h) (by omega) (by omega) (by omega)
      rwa [rightQ_form _ _ _ ⟨by rw [hl]; exact hlen, q1, q2⟩, hl] at this
    have HRi2 := Lib.hid hRi2
    clear hRi2
    obtain ⟨n, hn⟩ : ∃ n, n = b.length := ⟨_, rfl⟩
    obtain ⟨N, hN⟩ : ∃ N, N = sideQ n := ⟨_, rfl⟩
    have hN4 : 4 ≤ N ∧ N ≤ 8 := by rw [hN]; exact sideQ_form
    have hstep : ∀ i, i < n → ∀ W, Calls Try.prog 10 #[.int .i64 (Q : Int), .int .i64 ((i % N : Nat) : Int), .int .i64 ((i / N : Nat) : Int)] W fun e w' => e = .returned (.tuple #[.int .i64 (stepsAt Q n i), .int .i64 0]) ∧ w' = W := by
      intro i hi W
      have := rstep_any (Q : Int) ((i % N : Nat) : Int) ((i / N : Nat) : Int) W
      rw [hN, stepR_cell hQ (by rw [hn]; exact hlen) hi] at this
      rw [hN]
      exact this
    have hlev : ∀ i, i < n → -(67108864 * 1008) ≤ numAt b i * stepsAt Q n i ∧ numAt b i * stepsAt Q n i ≤ 67108864 * 1008 := by
      intro i hi
      have h1 := within_at hwi (j := i) (by omega)
      have h2 := stepsAt_le hQ (n := n) (by rw [hn]; exact hlen) hi
      exact mul_le h1.1 h1.2 (by omega) h2.2 (by omega)
    have hsucc := fineTo_succ b Q
    have HSide := Lib.hid fun W => rside8_any n W
    rw [← hN] at HSide
    have hn64 : n ≤ 64 := by omega
    have HStep := Lib.hid hstep; have HLev := Lib.hid hlev; have HR := Lib.hid hR2; have Hn := Lib.hid hn; have HS := Lib.hid hs; have Hsucc := Lib.hid hsucc
    rw [← hn] at HRi ⊢
    rw [← hn] at HR Hsucc HRi2
    clear hR hR2 hgood hlen hwi hn hs hb hN hstep hlev hsucc q1 q2
    go_enter Try.func18, Try.ntmps18
    go_wp2_with fail
    refine HRi.out.mono ?_
    rintro e w ⟨rfl, rfl⟩
    clear HRi
    go_wp2_with fail
    refine (HSide.out _).mono ?_
    rintro e w ⟨rfl, rfl⟩
    go_wp2_with fail
    go_loopw [8, 9, 10, 11] (fun s8 s9 s10 s11 wr => ∃ (i : Nat) (B : Option Addr) (d : Nat), i ≤ n ∧ s9 = .int .i64 (i : Int) ∧ s8 = .slice B i d ∧ MineN w wr (.slice B i d) (fineTo b Q i)) (fun _ s9 _ _ _ => n - (intOf s9).toNat)
    case atStart => exact ⟨0, none, 0, by omega, rfl, rfl, MineN.nil (Fr.refl _ _)⟩
    case round =>
      obtain ⟨i, B, d, hi, rfl, rfl, hM⟩ := hrel
      by_cases hlt : i < n
      · have eg : decide (i < n) = true := by simpa using hlt
        obtain ⟨ad, rfl, -⟩ := (HS.out.fr0 hM.fr).num (k := i) (by have := Hn.out; omega)
        have hst := HStep.out i hlt
        have hlv := HLev.out i hlt
        obtain ⟨I1, hI1⟩ : ∃ I1, I1 = i % N := ⟨_, rfl⟩
        obtain ⟨I2, hI2⟩ : ∃ I2, I2 = i / N := ⟨_, rfl⟩
        have f1 : (i : Int) % (N : Int) = (I1 : Int) := by rw [hI1]; simp
        have f2 : (i : Int) / (N : Int) = (I2 : Int) := by rw [hI2]; simp
        have f3 : (i : Int).tmod (N : Int) = (I1 : Int) := by rw [hI1]; rfl
        have f4 : (i : Int).tdiv (N : Int) = (I2 : Int) := by rw [hI2]; rfl
        have hI1l : I1 ≤ 64 := by rw [hI1]; exact Nat.le_trans (Nat.mod_le _ _) (by omega)
        have hI2l : I2 ≤ 64 := by rw [hI2]; exact Nat.le_trans (Nat.div_le_self _ _) (by omega)
        have w1 : IntKind.i64.wrap (I1 : Int) = (I1 : Int) := IntWalk.i64_in _ (by omega)
        have w2 : IntKind.i64.wrap (I2 : Int) = (I2 : Int) := IntWalk.i64_in _ (by omega)
        have hN0 : ¬ N = 0 := by omega
        have hN0' : ¬ (N : Int) = 0 := by omega
        rw [← hI1, ← hI2] at hst
        have hsu := Hsucc.out i
        unfold numAt at hlv hsu
        have hcell := fun W (hf : Fr [] w W) => (HS.out.fr0 hf).numS (k := i) (by have := Hn.out; omega)
        obtain ⟨v, hv⟩ : ∃ v, v = b.getD i 0 := ⟨_, rfl⟩
        rw [← hv] at hlv hsu hcell
        obtain ⟨s, hs⟩ : ∃ s, s = stepsAt Q n i := ⟨_, rfl⟩
        rw [← hs] at hst hlv hsu
        obtain ⟨L, hL⟩ : ∃ L, L = v * s := ⟨_, rfl⟩
        have eL : v * s = L := hL.symm
        rw [← hL] at hlv hsu
        have wL : IntKind.i64.wrap L = L := IntWalk.i64_in _ (by omega)
        have Hst := Lib.hid hst; have Hsu := Lib.hid hsu; have HM := Lib.hid hM; have Hcell := Lib.hid hcell
        clear hst hlv hsu hv hs hL hI1 hI2 hM hcell
        go_upto_region 9 with fail
        go_quiet (first | exact Calls.quiet_of_same (Hst.out _) | exact quiet_add_same (Hst.out _))
        clear f1 f2 f3 f4 w1 w2 hN0 hN0'
        have HM1 := Lib.hid (HM.out.fr0 ((Fr.refl [] wr).drewN nq))
        have cx := Hcell.out _ HM1.out.fr
        have Hl1 := Lib.hid (fineTo_length b Q i)
        generalize wr.drewN nq = wr at HM1 cx ⊢
        clear HM
        go_wp2_with (at_builtin; refine wp_append_num _ _ (.slice B i d) (fineTo b Q i) (.slice (some ⟨wr.heap.size, 0, none⟩) 1 1) [L] rfl rfl rfl rfl (HM1.out.own.alloc _) (Src.one (by simp [go_sem]; rfl)) (by rw [Hl1.out]; simp; omega) ?_)
        intro B2 d2 w5 hO hG
        have hM2 := MineN.appended (ms := [L]) (HM1.out.fr0 ((Fr.refl _ _).alloc (.cells #[.int .i64 L] 3))) (by rw [List.map_append]; exact hO) hG
        rw [← Hsu.out] at hM2
        rw [Hl1.out] at hM2 ⊢
        have HM2 := Lib.hid hM2
        clear hO hG hM2 cx
        go_wp2_with fail
        exact ⟨⟨i + 1, B2, d2, by omega, by simp, rfl, HM2.out⟩, by simp [intOf]; omega⟩
      · have eg : decide (i < n) = false := by simpa using hlt
        have hin : i = n := by omega
        subst hin
        have hlen := fineTo_length b Q i
        have Hc := Lib.hid (HRi2.out _ _ _ hM.src)
        have Hlen := Lib.hid hlen; have HM := Lib.hid hM
        obtain ⟨F, hF⟩ : ∃ F, F = fineTo b Q i := ⟨_, rfl⟩
        rw [← hF] at HR Hc Hlen HM
        clear hlen hM HRi2 hF
        cases hfw : withinB F 67108864
        · rw [hfw] at Hc
          have Hr := Lib.hid (HR.out.trans (if_neg (by rw [hfw]; simp)))
          clear hfw
          go_wp2_with fail
          refine Hc.out.mono ?_
          rintro e wr ⟨rfl, rfl⟩
          go_wp2_with fail
          go_ret2
          exact NumErr.none Hr.out HM.out.fr
        · rw [hfw] at Hc
          have Hr := Lib.hid (HR.out.trans (if_pos hfw))
          clear hfw
          go_wp2_with fail
          refine Hc.out.mono ?_
          rintro e wr ⟨rfl, rfl⟩
          go_wp2_with fail
          go_ret2
          rw [Hr.out]
          refine ⟨B, d, by rw [Hlen.out]; rfl, ?_, HM.out.fr⟩
          rw [Hlen.out]
          exact HM.out.src
end Go.Proofs.Ytendcmdpmohacaa

/-
  Rows of numbers put under several topics: what they teach the book, what they put; what putting a block puts. Plain.
-/
namespace Go.Proofs.Ytendcmdpmohacaa

def chsT : Chs → List (Nat × List Ev) → Chs
  | B, [] => B
  | B, x :: m => chsT (learned x.1 B x.2) m
def evsT : Chs → List (Nat × List Ev) → List (Nat × Bool)
  | _, [] => []
  | B, x :: m => track x.1 B x.2 ++ evsT (learned x.1 B x.2) m
theorem chsT_append : ∀ (L M : List (Nat × List Ev)) (B : Chs), chsT B (L ++ M) = chsT (chsT B L) M
  | [], _, _ => rfl
  | _ :: L, M, _ => chsT_append L M _
theorem evsT_append : ∀ (L M : List (Nat × List Ev)) (B : Chs), evsT B (L ++ M) = evsT B L ++ evsT (chsT B L) M
  | [], _, _ => rfl
  | x :: L, M, B => by
    show track x.1 B x.2 ++ evsT (learned x.1 B x.2) (L ++ M) = _
    rw [evsT_append L M]
    exact (List.append_assoc _ _ _).symm
theorem chsT_snoc (B : Chs) (L : List (Nat × List Ev)) (t : Nat) (m : List Ev) : chsT B (L ++ [(t, m)]) = learned t (chsT B L) m := chsT_append L [(t, m)] B
theorem evsT_snoc (B : Chs) (L : List (Nat × List Ev)) (t : Nat) (m : List Ev) : evsT B (L ++ [(t, m)]) = evsT B L ++ track t (chsT B L) m := by
  rw [evsT_append]
  show evsT B L ++ (track t (chsT B L) m ++ []) = _
  rw [List.append_nil]
theorem chsT_fine : ∀ (L : List (Nat × List Ev)) {B : Chs}, FineB B → FineB (chsT B L)
  | [], _, h => h
  | x :: L, _, h => chsT_fine L (learned_fine x.1 x.2 h)
theorem evsT_rights : ∀ (L : List (Nat × List Ev)) {B : Chs}, FineB B → Rights (evsT B L)
  | [], _, _ => fun x hx => by cases hx
  | x :: L, B, h => fun y hy => by
    rcases List.mem_append.1 hy with h1 | h1
    · exact track_rights x.1 x.2 h y h1
    · exact evsT_rights L (learned_fine x.1 x.2 h) y h1
/-- Rows of at most 42 bits each. -/
def Short (L : List (Nat × List Ev)) : Prop := ∀ x ∈ L, x.2.length ≤ 42
theorem evsT_length : ∀ (L : List (Nat × List Ev)) (B : Chs), Short L → (evsT B L).length ≤ 42 * L.length
  | [], _, _ => Nat.le_refl _
  | x :: L, B, h => by
    show (track x.1 B x.2 ++ evsT (learned x.1 B x.2) L).length ≤ _
    rw [List.length_append, track_length, List.length_cons]
    have h1 := h x (List.mem_cons_self ..)
    have h2 := evsT_length L (learned x.1 B x.2) fun y hy => h y (List.mem_cons_of_mem _ hy)
    omega
theorem Short.append {L M : List (Nat × List Ev)} (h : Short L) (k : Short M) : Short (L ++ M) := fun x hx => by
  rcases List.mem_append.1 hx with hx | hx
  · exact h x hx
  · exact k x hx

/-- What is put of a block in its order: how many up to the last one that is not 0, and these. -/
def numsT (t : Nat) (l : List Int) : List (Nat × List Ev) := l.map fun v => (t + 1, sgnEvs v)
def putsT (t : Nat) (l : List Int) : List (Nat × List Ev) := (t, numEvs (upTo l)) :: numsT t (l.take (upTo l))
theorem sgn_length {x : Int} (h1 : -1048576 ≤ x) (h2 : x ≤ 1048576) : (sgnEvs x).length ≤ 42 := by
  unfold sgnEvs signEvs
  have := numEvs_length (v := x.natAbs) (by omega)
  rw [List.length_append]
  split
  · simp; omega
  · simp; omega
theorem numsT_short {t : Nat} {l : List Int} (h : ∀ v ∈ l, -1048576 ≤ v ∧ v ≤ 1048576) : Short (numsT t l) := fun x hx => by
  obtain ⟨v, hv, rfl⟩ := List.mem_map.1 hx
  exact sgn_length (h v hv).1 (h v hv).2
theorem numsT_snoc (t : Nat) (l : List Int) (v : Int) : numsT t (l ++ [v]) = numsT t l ++ [(t + 1, sgnEvs v)] := by
  unfold numsT
  rw [List.map_append]
  rfl
theorem putsT_short {t : Nat} {l : List Int} (h : ∀ v ∈ l, -1048576 ≤ v ∧ v ≤ 1048576) (hl : l.length ≤ 100) : Short (putsT t l) := fun x hx => by
  rcases List.mem_cons.1 hx with rfl | hx
  · have := numEvs_length (v := upTo l) (by have := upTo_le l; omega)
    show (numEvs (upTo l)).length ≤ 42
    omega
  · exact numsT_short (fun v hv => h v (List.mem_of_mem_take hv)) x hx
theorem upTo_snoc : ∀ (l : List Int) (v : Int), upTo (l ++ [v]) = if v = 0 then upTo l else l.length + 1
  | [], v => by
    show (if upTo [] = 0 then (if v = 0 then 0 else 1) else upTo [] + 1) = _
    exact if_pos rfl
  | u :: l, v => by
    rw [List.cons_append, upTo_cons, upTo_snoc l v]
    by_cases hv : v = 0
    · rw [if_pos hv, if_pos hv, upTo_cons]
    · rw [if_neg hv, if_neg hv, if_neg (by omega)]
      rfl
theorem upTo_take_succ {l : List Int} {i : Nat} (h : i < l.length) : upTo (l.take (i + 1)) = if numAt l i = 0 then upTo (l.take i) else i + 1 := by
  rw [List.take_add_one, List.getElem?_eq_getElem h, Option.toList_some, upTo_snoc, List.length_take, Nat.min_eq_left (by omega)]
  unfold numAt
  rw [List.getD_eq_getElem?_getD, List.getElem?_eq_getElem h]
  rfl
theorem take_snoc {l : List Int} {i : Nat} (h : i < l.length) : l.take (i + 1) = l.take i ++ [numAt l i] := by
  rw [List.take_add_one, List.getElem?_eq_getElem h, Option.toList_some]
  unfold numAt
  rw [List.getD_eq_getElem?_getD, List.getElem?_eq_getElem h]
  rfl
end Go.Proofs.Ytendcmdpmohacaa

/-
  Contracts of the document's quant: Put. Conditions: blocks of bounded length; a pen that has written no more than 50000 bytes.
-/
namespace Go.Proofs.Ytendcmdpmohacaa
open Go.RowKit

/-- Behind rows of numbers put under several topics, from w0 on. -/
def PenT (w0 : World) (q p : Nat) (v0 : Value) (B : Chs) (e : Enc) (w : World) (L : List (Nat × List Ev)) : Prop :=
  ∃ v', Pen w q (chsT B L) p v' (puts e (evsT B L)) ∧ PenFr q p v0 v' w0 w
theorem Pen.none {w : World} {q p : Nat} {v : Value} {B : Chs} {e : Enc} (h : Pen w q B p v e) : PenT w q p v B e w [] := ⟨v, h, PenFr.refl q p v w⟩
theorem PenT.fr0 {w0 w w' : World} {q p : Nat} {v0 : Value} {B : Chs} {e : Enc} {L : List (Nat × List Ev)} (h : PenT w0 q p v0 B e w L) (hf : Fr [] w w') : PenT w0 q p v0 B e w' L := by
  obtain ⟨v', h1, h2⟩ := h
  exact ⟨v', h1.fr0 hf, h2.fr0 hf⟩
theorem PenT.from_ {w0 w1 w : World} {q p : Nat} {v0 : Value} {B : Chs} {e : Enc} {L : List (Nat × List Ev)} (h : PenT w1 q p v0 B e w L) (hf : Fr [] w0 w1) : PenT w0 q p v0 B e w L := by
  obtain ⟨v', h1, h2⟩ := h
  exact ⟨v', h1, ((PenFr.refl q p v0 w0).fr0 hf).trans h2⟩
/-- One row more. -/
theorem PenT.more {w0 W : World} {q p : Nat} {v0 : Value} {B : Chs} {e : Enc} {L : List (Nat × List Ev)} (h : PenT w0 q p v0 B e W L) {f : Nat} {xs : Array Value} {t : Nat} {m : List Ev} {P : Value}
    (hc : ∀ v', Pen W q (chsT B L) p v' (puts e (evsT B L)) → Calls Try.prog f xs W fun r w' => r = .returned P ∧ PenAt W q p t v' (chsT B L) (puts e (evsT B L)) w' m) :
    Calls Try.prog f xs W fun r w' => r = .returned P ∧ PenT w0 q p v0 B e w' (L ++ [(t, m)]) := by
  obtain ⟨v', h1, h2⟩ := h
  refine (hc v' h1).mono ?_
  rintro r w' ⟨hr, v2, h3, h4⟩
  refine ⟨hr, v2, ?_, h2.trans h4⟩
  rw [chsT_snoc, evsT_snoc, puts_append]
  exact h3
/-- What is apart from the book, the encoder and its row stays. -/
theorem PenT.src {w0 W : World} {q p : Nat} {v0 : Value} {B : Chs} {e : Enc} {L : List (Nat × List Ev)} (h : PenT w0 q p v0 B e W L) {u : Value} {xs : List Value} (hs : Src w0 u xs) (h1 : ∀ k, u.ownBlock = some k → k ≠ q ∧ k ≠ p ∧ v0.ownBlock ≠ some k) : Src W u xs := by
  obtain ⟨v', -, hf⟩ := h
  refine hs.fr hf.1 fun k hk hm => ?_
  obtain ⟨a, b, c⟩ := h1 k hk
  rcases List.mem_cons.1 hm with hm | hm
  · exact a hm
  · rcases List.mem_cons.1 hm with hm | hm
    · exact b hm
    · exact c (by simpa using hm)
theorem PenT.n {w0 W : World} {q p : Nat} {v0 : Value} {B : Chs} {e : Enc} {L : List (Nat × List Ev)} (_ : PenT w0 q p v0 B e W L) (hL : Short L) : (puts e (evsT B L)).n ≤ e.n + 42 * L.length :=
  Nat.le_trans (puts_n _ _) (Nat.add_le_add_left (evsT_length L B hL) _)

def okPut (b : List Int) (t : Int) : Bool := rightQ b 0 1048576 && (decide (0 ≤ t) && decide (t ≤ 14))
theorem once_sort {b : List Int} (h : withinB b 1048576 = true) : ∀ v ∈ sortL b, -1048576 ≤ v ∧ v ≤ 1048576 := by
  intro v hv
  unfold sortL at hv
  obtain ⟨k, -, rfl⟩ := List.mem_map.1 hv
  by_cases hk : k < b.length
  · exact within_at h hk
  · have : numAt b k = 0 := by
      unfold numAt
      rw [List.getD_eq_getElem?_getD, List.getElem?_eq_none (by omega)]
      rfl
    omega
theorem sort_len (b : List Int) : (sortL b).length ≤ b.length := by
  unfold sortL
  rw [List.length_map]
  exact once_len _

set_option maxRecDepth 20000 in
set_option maxHeartbeats 8000000 in
theorem rput8_ok (w : World) (q p : Nat) (v : Value) (B : Chs) (e : Enc) (A : Option Addr) (c : Nat) (b : List Int) (t : Int) (h : Pen w q B p v e) (hs : Src w (.slice A b.length c) (b.map I64)) (hb : b.length ≤ 1000) (he : e.n ≤ 50000) (hok : okPut b t = true) :
    Calls Try.prog 25 #[pt q, pt p, .int .i64 t, .slice A b.length c] w fun r w' => r = .returned (.int .i64 0) ∧ PenT w q p v B e w' (putsT t.toNat (sortL b)) := by
  have HRi := Lib.hid (rright8_any A c b 0 1048576 w hs (by omega) (by omega) (by omega))
  unfold okPut at hok
  simp only [Bool.and_eq_true, decide_eq_true_eq] at hok
  obtain ⟨hri, t1, t2⟩ := hok
  obtain ⟨T, rfl⟩ : ∃ T : Nat, t = (T : Int) := ⟨t.toNat, by omega⟩
  have e1 : decide ((T : Int) < 0) = false := by simp
  have e2 : decide (14 < (T : Int)) = false := by simp; omega
  have hT : T ≤ 14 := by omega
  rw [hri] at HRi
  obtain ⟨hlen, -, hwi⟩ := right_parts hri
  have HSo := Lib.hid (rsort7_new A c b w hs hb)
  have hwl := once_sort hwi
  have hsl := sort_len b
  obtain ⟨l, hl⟩ : ∃ l, l = sortL b := ⟨_, rfl⟩
  rw [← hl] at HSo hwl hsl
  rw [← hl, Int.toNat_natCast]
  obtain ⟨n, hn⟩ : ∃ n, n = b.length := ⟨_, rfl⟩
  rw [← hn] at HRi HSo hsl ⊢
  have hn64 : n ≤ 64 := by omega
  obtain ⟨m, hm⟩ : ∃ m, m = l.length := ⟨_, rfl⟩
  rw [← hm] at hsl
  obtain ⟨N, hN⟩ : ∃ N, N = upTo l := ⟨_, rfl⟩
  have hNm : N ≤ m := by rw [hN, hm]; exact upTo_le l
  have hput : putsT T l = [(T, numEvs N)] ++ numsT T (l.take N) := by rw [hN]; rfl
  rw [hput]
  have hq := h.bk.lt; have hp := h.en.lt; have hv := own_lt h.en.2.1
  have HP := Lib.hid h; have Hwl := Lib.hid hwl; have Hm := Lib.hid hm; have HN := Lib.hid hN; have Hq := Lib.hid hq; have Hp := Lib.hid hp; have Hv := Lib.hid hv
  clear t1 t2 hri hlen hwi hl hn hm hN hput hs hb h hwl hq hp hv
  go_enter Try.func25, Try.ntmps25
  go_wp2_with fail
  refine HRi.out.mono ?_
  rintro r w0 ⟨rfl, rfl⟩
  clear HRi
  go_wp2_with fail
  refine HSo.out.mono ?_
  rintro r w1 ⟨A1, c1, rfl, hM⟩
  rw [← Hm.out] at hM ⊢
  have hapart : ∀ k, (Value.slice A1 m c1).ownBlock = some k → k ≠ q ∧ k ≠ p ∧ v.ownBlock ≠ some k := by
    intro k hk
    have h1 := hM.new k hk
    have h2 := Hq.out; have h3 := Hp.out
    exact ⟨by omega, by omega, fun hk2 => by have := Hv.out k hk2; omega⟩
  have HF1 := Lib.hid hM.fr; have HS1 := Lib.hid hM.src; have Hap := Lib.hid hapart
  clear hM hapart HSo
  go_wp2_with fail
  go_loopw [11, 12] (fun s11 s12 wr => ∃ i : Nat, i ≤ m ∧ s12 = .int .i64 (i : Int) ∧ s11 = .int .i64 (upTo (l.take i) : Int) ∧ wr = w1) (fun _ s12 _ => m - (intOf s12).toNat)
  case atStart => exact ⟨0, by omega, rfl, rfl, rfl⟩
  case round =>
    obtain ⟨i, hi, rfl, rfl, hwr⟩ := hrel
    have hwr2 := hwr.symm
    clear hwr
    subst hwr2
    obtain ⟨U, hU⟩ : ∃ U, U = upTo (l.take i) := ⟨_, rfl⟩
    have hUi : U ≤ i := by
      rw [hU]
      have := upTo_le (l.take i)
      rw [List.length_take] at this
      omega
    rw [← hU]
    have HU := Lib.hid hU
    clear hU
    by_cases hlt : i < m
    · have eg : decide (i < m) = true := by simpa using hlt
      have hil : i < l.length := by rw [← Hm.out]; exact hlt
      obtain ⟨ad, rfl, cx⟩ := HS1.out.num hil
      have hsu := upTo_take_succ hil
      unfold numAt at hsu
      obtain ⟨x, hx⟩ : ∃ x, x = l.getD i 0 := ⟨_, rfl⟩
      rw [← hx] at cx hsu
      by_cases hx0 : x = 0
      · have e3 : (x != 0) = false := by simpa using hx0
        rw [if_pos hx0, ← HU.out] at hsu
        have Hsu := Lib.hid hsu
        clear hx hx0 hsu hil
        go_wp2_with fail
        exact ⟨⟨i + 1, by omega, by simp, by rw [Hsu.out], trivial⟩, by simp [intOf]; omega⟩
      · have e3 : (x != 0) = true := by simpa using hx0
        rw [if_neg hx0] at hsu
        have Hsu := Lib.hid hsu
        clear hx hx0 hsu hil
        go_wp2_with fail
        exact ⟨⟨i + 1, by omega, by simp, by rw [Hsu.out]; simp, trivial⟩, by simp [intOf]; omega⟩
    · have eg : decide (i < m) = false := by simpa using hlt
      have hUN : U = N := by
        rw [HU.out, HN.out, List.take_of_length_le (by have := Hm.out; omega)]
      subst hUN
      have hT0 := (HP.out.fr0 HF1.out).none
      have hU64 : U ≤ 64 := by omega
      have hPut := fun W (hw : PenT w1 q p v B e W []) => PenT.more (t := T) (m := numEvs U) (P := .int .i64 0) hw (f := 48) (xs := #[pt q, pt p, .int .i64 (T : Int), .int .i64 (U : Int)]) fun v' h' => rPut_ok W q p T U v' _ _ h' (by omega) (by omega) (by have := hw.n (fun x hx => by cases hx); simp at this; omega)
      have HT0 := Lib.hid hT0; have HPut := Lib.hid hPut
      clear hT0 hPut HU
      go_wp2_with fail
      refine (HPut.out _ HT0.out).mono ?_
      rintro r w2 ⟨rfl, hT1⟩
      rw [List.nil_append] at hT1
      have HT1 := Lib.hid hT1
      clear hT1 HPut HT0
      go_wp2_with fail
      go_loopw [13] (fun s13 wl => ∃ j : Nat, j ≤ U ∧ s13 = .int .i64 (j : Int) ∧ PenT w1 q p v B e wl ([(T, numEvs U)] ++ numsT T (l.take j))) (fun s13 _ => U - (intOf s13).toNat)
      case atStart => exact ⟨0, by omega, rfl, by simpa [numsT] using HT1.out⟩
      case round =>
        clear HT1
        obtain ⟨j, hj, rfl, hP⟩ := hrel
        by_cases hlt2 : j < U
        · have eg2 : decide (j < U) = true := by simpa using hlt2
          have hjl : j < l.length := by have := Hm.out; omega
          obtain ⟨ad, rfl, cx⟩ := (hP.src HS1.out Hap.out).num hjl
          have hsn := take_snoc hjl
          have hbx := Hwl.out (numAt l j) (by
            unfold numAt
            rw [List.getD_eq_getElem?_getD, List.getElem?_eq_getElem hjl]
            exact List.getElem_mem hjl)
          unfold numAt at hsn hbx
          obtain ⟨x, hx⟩ : ∃ x, x = l.getD j 0 := ⟨_, rfl⟩
          rw [← hx] at cx hsn hbx
          have hshort : Short ([(T, numEvs U)] ++ numsT T (l.take j)) := by
            refine Short.append (fun y hy => ?_) (numsT_short fun y hy => Hwl.out y (List.mem_of_mem_take hy))
            rw [List.mem_singleton.1 hy]
            have := numEvs_length (v := U) (by omega)
            show (numEvs U).length ≤ 42
            omega
          have hlen := hP.n hshort
          have hll : ([(T, numEvs U)] ++ numsT T (l.take j)).length ≤ 65 := by
            unfold numsT
            rw [List.length_append, List.length_map, List.length_take]
            simp
            omega
          have hPS := fun W (hw : PenT w1 q p v B e W ([(T, numEvs U)] ++ numsT T (l.take j))) => PenT.more (t := T + 1) (m := sgnEvs x) (P := .int .i64 0) hw (f := 49) (xs := #[pt q, pt p, .int .i64 ((T + 1 : Nat) : Int), .int .i64 x]) fun v' h' => rPutSigned_ok W q p (T + 1) x v' _ _ h' (by omega) (by omega) (by omega) (by omega)
          have hnext : ([(T, numEvs U)] ++ numsT T (l.take j)) ++ [(T + 1, sgnEvs x)] = [(T, numEvs U)] ++ numsT T (l.take (j + 1)) := by
            rw [hsn, numsT_snoc, List.append_assoc]
          have HPS := Lib.hid hPS; have HPx := Lib.hid hP; have Hnext := Lib.hid hnext
          clear hPS hP hnext hsn hbx hx hshort hlen hll hjl
          go_wp2_with fail
          refine (HPS.out _ HPx.out).mono ?_
          rintro r w3 ⟨rfl, hP3⟩
          rw [Hnext.out] at hP3
          have HP3 := Lib.hid hP3
          clear hP3 HPS HPx
          go_wp2_with fail
          exact ⟨⟨j + 1, by omega, by simp, HP3.out⟩, by simp [intOf]; omega⟩
        · have eg2 : decide (j < U) = false := by simpa using hlt2
          have hjU : j = U := by omega
          subst hjU
          have HPx := Lib.hid hP
          clear hP
          go_wp2_with fail
          go_ret
          exact ⟨rfl, HPx.out.from_ HF1.out⟩

theorem rput8_bad (w : World) (P Q : Value) (A : Option Addr) (c : Nat) (b : List Int) (t : Int) (hs : Src w (.slice A b.length c) (b.map I64)) (hb : b.length ≤ 1000) (hok : okPut b t = false) :
    Calls Try.prog 25 #[P, Q, .int .i64 t, .slice A b.length c] w fun r w' => r = .returned (.int .i64 1) ∧ w' = w := by
  have HRi := Lib.hid (rright8_any A c b 0 1048576 w hs (by omega) (by omega) (by omega))
  unfold okPut at hok
  obtain ⟨R, hR⟩ : ∃ R, R = rightQ b 0 1048576 := ⟨_, rfl⟩
  rw [← hR] at HRi hok
  obtain ⟨n, hn⟩ : ∃ n, n = b.length := ⟨_, rfl⟩
  rw [← hn] at HRi ⊢
  clear hR hn hs hb
  cases R
  case' true =>
    have hok2 : t < 0 ∨ (0 ≤ t ∧ 14 < t) := by
      simp at hok; omega
    rcases hok2 with h1 | ⟨h1, h2⟩
    case' inl => have e1 : decide (t < 0) = true := by simpa using h1
    case' inr =>
      have e1 : decide (t < 0) = false := by simpa using h1
      have e2 : decide (14 < t) = true := by simpa using h2
  all_goals
    clear hok
    go_enter Try.func25, Try.ntmps25
    go_wp2_with fail
    refine HRi.out.mono ?_
    rintro r w ⟨rfl, rfl⟩
    clear HRi
    go_wp2_with fail
    go_ret
    exact ⟨rfl, rfl⟩
end Go.Proofs.Ytendcmdpmohacaa

/-
  Getting a block of levels out of bytes. Plain.
-/
namespace Go.Proofs.Ytendcmdpmohacaa

/-- Numbers, or the error. -/
inductive GotL where
  | bad (e : Int)
  | ok (l : List Int) (B : Chs) (d : Dec)
/-- So many signed numbers behind those there. -/
def getVals (bs : List UInt8) (t : Nat) : Nat → List Int → Chs → Dec → GotL
  | 0, acc, B, d => .ok acc B d
  | k + 1, acc, B, d =>
    match getSgn bs t B d with
    | .bad e => .bad e
    | .ok v B' d' => getVals bs t k (acc ++ [v]) B' d'
/-- Zeros behind numbers, n in all; a block out of its order, if the last number is not 0. -/
def fillL (n : Nat) (l : List Int) : List Int := l ++ List.replicate (n - l.length) 0
def endL (n k : Nat) : GotL → GotL
  | .bad e => .bad e
  | .ok l B d => if 0 < k ∧ numAt l (k - 1) = 0 then .bad 51 else .ok (unsortL (fillL n l)) B d
def behindL (bs : List UInt8) (t n : Nat) : Got → GotL
  | .bad e => .bad e
  | .ok k B d => if (n : Int) < k then .bad 51 else endL n k.toNat (getVals bs (t + 1) k.toNat [] B d)
def getBlk (bs : List UInt8) (t n : Nat) (B : Chs) (d : Dec) : GotL := behindL bs t n (getNum bs t B d)
def okGet (t n : Int) : Bool := (decide (n = 16) || decide (n = 64)) && (decide (0 ≤ t) && decide (t ≤ 14))

theorem fillL_length {n : Nat} {l : List Int} (h : l.length ≤ n) : (fillL n l).length = n := by
  unfold fillL
  rw [List.length_append, List.length_replicate]
  omega
theorem fillL_nil (n : Nat) : fillL n [] = List.replicate n 0 := rfl
theorem fillL_set {n : Nat} {l : List Int} (v : Int) (h : l.length < n) : (fillL n l).set l.length v = fillL n (l ++ [v]) := by
  unfold fillL
  rw [List.set_append_right _ _ (Nat.le_refl _), Nat.sub_self]
  obtain ⟨m, hm⟩ : ∃ m, n - l.length = m + 1 := ⟨n - l.length - 1, by omega⟩
  rw [hm, List.replicate_succ, List.set_cons_zero, List.length_append, List.append_assoc]
  rw [show n - (l.length + [v].length) = m by simp; omega]
  rfl
theorem fillL_at {n : Nat} {l : List Int} {j : Nat} (h : j < l.length) : numAt (fillL n l) j = numAt l j := by
  unfold fillL numAt
  rw [List.getD_eq_getElem?_getD, List.getElem?_append_left h, ← List.getD_eq_getElem?_getD]
end Go.Proofs.Ytendcmdpmohacaa

/-
  Contracts of the document's quant: Get. Conditions: at most 100000 bytes.
-/
namespace Go.Proofs.Ytendcmdpmohacaa
open Go.RowKit

theorem Eye.fr {w w' : World} {q p cc : Nat} {B : Chs} {A : Option Addr} {bs : List UInt8} {d : Dec} {S : List Nat} (h : Eye w q B p A cc bs d) (hf : Fr S w w') (h1 : q ∉ S) (h2 : p ∉ S) (h3 : ∀ ad, A = some ad → ad.block ∉ S) : Eye w' q B p A cc bs d :=
  ⟨h.bk.fr hf h1, h.de.fr hf h2 h3, h.qp, h.qa, h.fine, h.lo, h.hi, h.at_⟩
def GotLPost (q p : Nat) (A : Option Addr) (cc : Nat) (bs : List UInt8) (w : World) (g : GotL) (r : Ending) (w' : World) : Prop :=
  match g with
  | .bad e => r = .returned (.tuple #[.slice none 0 0, .int .i64 e]) ∧ Fr [q, p] w w'
  | .ok l B d => (∃ A1 c1, r = .returned (.tuple #[.slice A1 l.length c1, .int .i64 0]) ∧ Src w' (.slice A1 l.length c1) (l.map I64)) ∧ Eye w' q B p A cc bs d ∧ Fr [q, p] w w'

theorem rget8_bad (t n : Int) (P Q : Value) (w : World) (hok : okGet t n = false) :
    Calls Try.prog 31 #[P, Q, .int .i64 t, .int .i64 n] w fun r w' => r = .returned (.tuple #[.slice none 0 0, .int .i64 1]) ∧ w' = w := by
  unfold okGet at hok
  rcases Bool.eq_false_or_eq_true (n != 16) with e1 | e1 <;> rcases Bool.eq_false_or_eq_true (n != 64) with e2 | e2 <;> rcases Bool.eq_false_or_eq_true (decide (t < 0)) with e3 | e3 <;> rcases Bool.eq_false_or_eq_true (decide (14 < t)) with e4 | e4
  all_goals first
    | (exfalso; simp only [bne_iff_ne, bne_eq_false_iff_eq, ne_eq, decide_eq_true_eq, decide_eq_false_iff_not] at e1 e2 e3 e4; simp at hok; omega)
    | (clear hok
       go_enter Try.func31, Try.ntmps31
       go_wp2_with fail
       go_ret2
       exact ⟨rfl, rfl⟩)

theorem getNum_bad {bs : List UInt8} {t : Nat} {B : Chs} {d : Dec} {e : Int} (h : getNum bs t B d = .bad e) : e = 41 ∨ e = 51 := by
  unfold getNum at h
  split at h
  · injection h with h1; exact .inl h1.symm
  · split at h
    · injection h with h1; exact .inl h1.symm
    · split at h
      · injection h with h1; exact .inr h1.symm
      · cases h
theorem getSgn_bad {bs : List UInt8} {t : Nat} {B : Chs} {d : Dec} {e : Int} (h : getSgn bs t B d = .bad e) : e = 41 ∨ e = 51 := by
  unfold getSgn at h
  split at h
  · rename_i hn
    injection h with h1
    subst h1
    exact getNum_bad hn
  · unfold getSign at h
    split at h
    · cases h
    · split at h
      · injection h with h1; exact .inl h1.symm
      · cases h
theorem getVals_bad {bs : List UInt8} {t k : Nat} {acc : List Int} {B : Chs} {d : Dec} {e : Int} (h : getSgn bs t B d = .bad e) : getVals bs t (k + 1) acc B d = .bad e := by
  unfold getVals
  rw [h]
theorem getVals_ok {bs : List UInt8} {t k : Nat} {acc : List Int} {B B' : Chs} {d d' : Dec} {v : Int} (h : getSgn bs t B d = .ok v B' d') : getVals bs t (k + 1) acc B d = getVals bs t k (acc ++ [v]) B' d' := by
  conv => lhs; unfold getVals
  rw [h]
theorem own_fill {w : World} {g n i : Nat} {acc : List Int} (hO : Own w 3 (.slice (some ⟨g, 0, none⟩) n n) ((fillL n acc).map I64)) (hi : acc.length = i) (hn : i < n) (v : Int) :
    Own (w.setCell ⟨g, i, none⟩ (.int .i64 v)) 3 (.slice (some ⟨g, 0, none⟩) n n) ((fillL n (acc ++ [v])).map I64) := by
  subst hi
  have := hO.set acc.length (.int .i64 v)
  rw [← fillL_set v hn, List.map_set]
  exact this
theorem own_num {w : World} {g n j : Nat} {xs : List Int} (hO : Own w 3 (.slice (some ⟨g, 0, none⟩) n n) (xs.map I64)) (hj : j < xs.length) : w.cell? ⟨g, j, none⟩ = some (.int .i64 (numAt xs j)) ∧ w.frozen? ⟨g, j, none⟩ = false := by
  obtain ⟨h1, h2, -⟩ := hO.at_ (j := j) (by simpa using hj)
  refine ⟨?_, h2⟩
  unfold numAt
  rw [h1, List.getElem?_map, List.getElem?_eq_getElem hj, List.getD_eq_getElem?_getD, List.getElem?_eq_getElem hj]
  rfl

set_option maxRecDepth 20000 in
set_option maxHeartbeats 8000000 in
theorem rget8_ok (w : World) (q p T N cc : Nat) (A : Option Addr) (bs : List UInt8) (d : Dec) (B : Chs) (h : Eye w q B p A cc bs d) (hn : bs.length ≤ 100000) (hA : ∀ ad, A = some ad → ad.block < w.heap.size) (hN : N = 16 ∨ N = 64) (hT : T ≤ 14) :
    Calls Try.prog 31 #[pt q, pt p, .int .i64 (T : Int), .int .i64 (N : Int)] w (GotLPost q p A cc bs w (getBlk bs T N B d)) := by
  have e3 : decide ((T : Int) < 0) = false := by simp
  have e4 : decide (14 < (T : Int)) = false := by simp; omega
  have e12 : (((N : Int) != 16) = false ∧ ((N : Int) != 64) = true) ∨ (((N : Int) != 16) = true ∧ ((N : Int) != 64) = false) := by
    rcases hN with rfl | rfl
    · exact .inl ⟨rfl, rfl⟩
    · exact .inr ⟨rfl, rfl⟩
  have hN16 : 16 ≤ N ∧ N ≤ 64 := by omega
  have hG := rGet_any w q p T cc A bs d B h (by omega) hn
  unfold getBlk
  have hq := h.bk.lt
  have hp := Blk.lt h.de.1
  obtain ⟨g, hg⟩ : ∃ g, g = getNum bs T B d := ⟨_, rfl⟩
  have hrange : ∀ k B' d', g = .ok k B' d' → 0 ≤ k := fun k B' d' e => (getNum_range (hg ▸ e)).1
  have hbad : ∀ e, g = .bad e → e = 41 ∨ e = 51 := fun e k => getNum_bad (hg ▸ k)
  have Hb := Lib.hid hbad
  clear hbad
  rw [← hg] at hG ⊢
  have HG := Lib.hid hG; have HA := Lib.hid hA; have Hq := Lib.hid hq; have Hp := Lib.hid hp; have Hr := Lib.hid hrange
  clear hG hA hq hp h hg hN hrange
  cases g with
  | bad e =>
    have e6 : (e != 0) = true := by
      rcases Hb.out e rfl with rfl | rfl <;> rfl
    show Calls Try.prog 31 _ w (GotLPost q p A cc bs w (.bad e))
    clear Hr Hb
    rcases e12 with ⟨e1, e2⟩ | ⟨e1, e2⟩
    all_goals
      go_enter Try.func31, Try.ntmps31
      go_wp2_with fail
      refine HG.out.mono ?_
      rintro r w1 ⟨rfl, hF⟩
      have HF := Lib.hid hF
      clear hF HG
      go_wp2_with fail
      go_ret2
      exact ⟨rfl, HF.out⟩
  | ok k B1 d1 =>
    obtain ⟨K, rfl⟩ : ∃ K : Nat, k = (K : Int) := ⟨k.toNat, by have := Hr.out k B1 d1 rfl; omega⟩
    show Calls Try.prog 31 _ w (GotLPost q p A cc bs w (if (N : Int) < (K : Int) then .bad 51 else endL N K (getVals bs (T + 1) K [] B1 d1)))
    clear Hr Hb
    by_cases hKN : N < K
    · rw [if_pos (by omega)]
      have e5 : decide (N < K) = true := by simpa using hKN
      rcases e12 with ⟨e1, e2⟩ | ⟨e1, e2⟩
      all_goals
        go_enter Try.func31, Try.ntmps31
        go_wp2_with fail
        refine HG.out.mono ?_
        rintro r w1 ⟨rfl, hE, hF⟩
        have HF := Lib.hid hF
        clear hE hF HG
        go_wp2_with fail
        go_ret2
        exact ⟨rfl, HF.out⟩
    · rw [if_neg (by omega)]
      have e5 : decide (N < K) = false := by simp; omega
      obtain ⟨V, hV⟩ : ∃ V, V = getVals bs (T + 1) K [] B1 d1 := ⟨_, rfl⟩
      rw [← hV]
      have HV := Lib.hid hV
      clear hV
      rcases e12 with ⟨e1, e2⟩ | ⟨e1, e2⟩
      all_goals
        go_enter Try.func31, Try.ntmps31
        go_wp2_with fail
        refine HG.out.mono ?_
        rintro r w1 ⟨rfl, hE, hF⟩
        have HE := Lib.hid hE; have HF := Lib.hid hF
        clear hE hF HG
        obtain ⟨i0, hi0, hz0, hs0, hb0⟩ := info_parts info_num
        go_wp2_with (at_make; refine wpList_make_mine _ _ 29 3 i0 _ 8 _ _ N rfl rfl Try.underlying29 hi0 hz0 hs0 hb0 rfl rfl rfl (by omega) (by simp only [maxLen]; omega) ?_)
        intro w2 hO hF2 hlt2
        obtain ⟨g, hg⟩ : ∃ g, g = w1.heap.size := ⟨_, rfl⟩
        have hgw : w.heap.size ≤ g := by rw [hg]; exact HF.out.size
        have hO2 : Own w2 3 (.slice (some ⟨g, 0, none⟩) N N) ((fillL N []).map I64) := by
          rw [fillL_nil, List.map_replicate, hg]; exact hO
        have hgq : g ∉ [q, p] := by
          have := Hq.out; have := Hp.out
          simp; omega
        have hgA : ∀ ad, A = some ad → ad.block ∉ [g] := by
          intro ad e
          have := HA.out ad e
          simp; omega
        have hqg : q ∉ [g] ∧ p ∉ [g] := by
          have := Hq.out; have := Hp.out
          simp; omega
        rw [← hg]
        have HO2 := Lib.hid hO2; have HF2 := Lib.hid (HF.out.trans hF2 (by simp)); have HE2 := Lib.hid (HE.out.fr0 hF2); have Hgw := Lib.hid hgw; have Hgq := Lib.hid hgq; have HgA := Lib.hid hgA; have Hqg := Lib.hid hqg
        clear hO hF2 hlt2 hg hO2 hgq hgA hqg HF HE hgw hi0 hz0 hs0 hb0 HA Hq Hp
        go_wp2_with fail
        go_loopw [13, 14, 15] (fun s13 s14 s15 wr => ∃ (i : Nat) (acc : List Int) (B2 : Chs) (d2 : Dec), i ≤ K ∧ s13 = .int .i64 (i : Int) ∧ acc.length = i ∧ Eye wr q B2 p A cc bs d2 ∧ Own wr 3 (.slice (some ⟨g, 0, none⟩) N N) ((fillL N acc).map I64) ∧ Fr [q, p] w wr ∧ V = getVals bs (T + 1) (K - i) acc B2 d2) (fun s13 _ _ _ => K - (intOf s13).toNat)
        case atStart => exact ⟨0, [], B1, d1, by omega, rfl, rfl, HE2.out, HO2.out, HF2.out, HV.out⟩
        case round =>
          clear HE2 HO2 HF2 HV
          obtain ⟨i, acc, B2, d2, hi, rfl, hacc, hE, hO, hF, hV⟩ := hrel
          by_cases hlt : i < K
          · have eg : decide (i < K) = true := by simpa using hlt
            have hS := rGetSigned_any _ q p (T + 1) cc A bs d2 B2 hE (by omega) hn
            obtain ⟨m, hm⟩ : ∃ m, K - i = m + 1 := ⟨K - i - 1, by omega⟩
            rw [hm] at hV
            cases hg : getSgn bs (T + 1) B2 d2 with
            | bad e =>
              rw [hg] at hS
              rw [getVals_bad hg] at hV
              have e6 : (e != 0) = true := by
                rcases getSgn_bad hg with rfl | rfl <;> rfl
              have HS := Lib.hid hS; have HV := Lib.hid hV; have HFx := Lib.hid hF
              clear hS hV hF hE hO hg hacc hm
              go_wp2_with fail
              refine HS.out.mono ?_
              rintro r w3 ⟨rfl, hF3⟩
              have HF3 := Lib.hid (HFx.out.trans hF3 (by simp))
              clear hF3 HS HFx
              go_wp2_with fail
              go_ret2
              rw [HV.out]
              exact ⟨rfl, HF3.out⟩
            | ok v B3 d3 =>
              rw [hg] at hS
              rw [getVals_ok hg, show m = K - (i + 1) by omega] at hV
              have hiN : i < N := by omega
              have HS := Lib.hid hS; have HV := Lib.hid hV; have HFx := Lib.hid hF; have HOx := Lib.hid hO; have Hacc := Lib.hid hacc
              clear hS hV hF hE hO hg hacc hm
              go_wp2_with fail
              refine HS.out.mono ?_
              rintro r w3 ⟨rfl, hE3, hF3⟩
              have hO3 := HOx.out.fr hF3 (fun k hk => by
                have hk2 : g = k := by simpa [Value.ownBlock] using hk
                subst hk2
                exact Hgq.out)
              obtain ⟨cz, fz⟩ := own_num (j := i) hO3 (by rw [fillL_length (by have := Hacc.out; omega)]; exact hiN)
              have hfl := Fr.setCell (Fr.refl [g] w3) (p := ⟨g, i, none⟩) (.inl (by simp)) (.int .i64 v)
              have HE4 := Lib.hid (hE3.fr hfl Hqg.out.1 Hqg.out.2 HgA.out)
              have HO4 := Lib.hid (own_fill hO3 Hacc.out hiN v)
              have HF4 := Lib.hid (Fr.setCell (HFx.out.trans hF3 (by simp)) (p := ⟨g, i, none⟩) (.inr Hgw.out) (.int .i64 v))
              obtain ⟨z, hz⟩ : ∃ z, z = numAt (fillL N acc) i := ⟨_, rfl⟩
              rw [← hz] at cz
              clear hE3 hF3 hO3 hfl hz HFx HOx HS
              go_wp2_with fail
              exact ⟨⟨i + 1, acc ++ [v], B3, d3, by omega, by simp, by rw [List.length_append, Hacc.out]; rfl, HE4.out, HO4.out, HF4.out, HV.out⟩, by simp [intOf]; omega⟩
          · have eg : decide (i < K) = false := by simpa using hlt
            have hiK : i = K := by omega
            rw [hiK, Nat.sub_self] at hV
            have hV2 : V = .ok acc B2 d2 := hV
            rw [hiK] at hacc
            have hfl : (fillL N acc).length = N := fillL_length (by omega)
            have hU := runsort7_any (some ⟨g, 0, none⟩) N (fillL N acc) wr (by rw [hfl]; exact hO.src) (by omega)
            rw [hfl] at hU
            have HU := Lib.hid hU; have HEx := Lib.hid hE; have HFx := Lib.hid hF
            by_cases hz : 0 < K ∧ numAt acc (K - 1) = 0
            · have hend : endL N K V = .bad 51 := by rw [hV2]; exact if_pos hz
              have hc := (own_num (j := K - 1) hO (by omega)).1
              rw [fillL_at (by omega), hz.2] at hc
              have e7 : decide (0 < K) = true := by simpa using hz.1
              obtain ⟨K1, hK1⟩ : ∃ K1, K1 = K - 1 := ⟨_, rfl⟩
              have eK : (K : Int) - 1 = (K1 : Int) := by omega
              have wK : IntKind.i64.wrap (K1 : Int) = (K1 : Int) := IntWalk.i64_in _ (by omega)
              have hKN1 : K1 < N := by omega
              rw [← hK1] at hc
              have Hend := Lib.hid hend
              clear hz hend hK1 hU hE hF hO hfl hacc hV hV2 hiK HU
              go_wp2_with fail
              go_ret2
              rw [Hend.out]
              exact ⟨rfl, HFx.out⟩
            · have hend : endL N K V = .ok (unsortL (fillL N acc)) B2 d2 := by rw [hV2]; exact if_neg hz
              have Hend := Lib.hid hend
              obtain ⟨u, hu⟩ : ∃ u, u = unsortL (fillL N acc) := ⟨_, rfl⟩
              rw [← hu] at HU Hend
              by_cases hK0 : 0 < K
              · have hc := (own_num (j := K - 1) hO (by omega)).1
                rw [fillL_at (by omega)] at hc
                have hx0 : numAt acc (K - 1) ≠ 0 := fun e => hz ⟨hK0, e⟩
                obtain ⟨x, hx⟩ : ∃ x, x = numAt acc (K - 1) := ⟨_, rfl⟩
                rw [← hx] at hc hx0
                have e7 : decide (0 < K) = true := by simpa using hK0
                have e8 : (x == 0) = false := by simpa using hx0
                obtain ⟨K1, hK1⟩ : ∃ K1, K1 = K - 1 := ⟨_, rfl⟩
                have eK : (K : Int) - 1 = (K1 : Int) := by omega
                have wK : IntKind.i64.wrap (K1 : Int) = (K1 : Int) := IntWalk.i64_in _ (by omega)
                have hKN1 : K1 < N := by omega
                rw [← hK1] at hc
                clear hz hend hK1 hU hE hF hO hfl hacc hV hV2 hiK hx hx0 hK0 hu
                go_wp2_with fail
                refine HU.out.mono ?_
                rintro r w5 ⟨A5, c5, rfl, hs5, hf5⟩
                have HS5 := Lib.hid hs5; have HF5 := Lib.hid (HFx.out.trans hf5 (by simp)); have HE5 := Lib.hid (HEx.out.fr0 hf5)
                clear hs5 hf5 hc
                go_wp2_with fail
                go_ret2
                rw [Hend.out]
                exact ⟨⟨A5, c5, rfl, HS5.out⟩, HE5.out, HF5.out⟩
              · have e7 : decide (0 < K) = false := by simpa using hK0
                clear hz hend hU hE hF hO hfl hacc hV hV2 hiK hK0 hu
                go_wp2_with fail
                refine HU.out.mono ?_
                rintro r w5 ⟨A5, c5, rfl, hs5, hf5⟩
                have HS5 := Lib.hid hs5; have HF5 := Lib.hid (HFx.out.trans hf5 (by simp)); have HE5 := Lib.hid (HEx.out.fr0 hf5)
                clear hs5 hf5
                go_wp2_with fail
                go_ret2
                rw [Hend.out]
                exact ⟨⟨A5, c5, rfl, HS5.out⟩, HE5.out, HF5.out⟩
end Go.Proofs.Ytendcmdpmohacaa

/-
  A block out of its order, and back. Plain.
-/
namespace Go.Proofs.Ytendcmdpmohacaa

theorem sortL_length (b : List Int) : (sortL b).length = (orderL (sideN b.length)).length := by simp [sortL]
theorem unsortL_length (b : List Int) : (unsortL b).length = (orderL (sideN b.length)).length := by simp [unsortL]
theorem sortL_at {b : List Int} {i : Nat} (h : i < (orderL (sideN b.length)).length) : numAt (sortL b) i = numAt b ((orderL (sideN b.length)).getD i 0) := by
  unfold sortL
  unfold numAt
  rw [List.getD_eq_getElem?_getD, List.getElem?_map, List.getElem?_eq_getElem h, List.getD_eq_getElem?_getD (l := orderL _), List.getElem?_eq_getElem h]
  rfl
theorem unsortL_at {b : List Int} {p : Nat} (h : p < (orderL (sideN b.length)).length) : numAt (unsortL b) p = numAt b ((orderL (sideN b.length)).idxOf p) := numAt_map h
theorem sorts {b : List Int} (h : Once (orderL (sideN b.length)) b.length) : (sortL b).length = b.length ∧ (unsortL b).length = b.length ∧ unsortL (sortL b) = b ∧ sortL (unsortL b) = b := by
  have l1 : (sortL b).length = b.length := by rw [sortL_length, h.len]
  have l2 : (unsortL b).length = b.length := by rw [unsortL_length, h.len]
  refine ⟨l1, l2, ?_, ?_⟩
  · apply num_ext
    · rw [unsortL_length, l1, h.len]
    · intro p hp
      rw [unsortL_length, l1, h.len] at hp
      obtain ⟨h1, h2⟩ := h.here p hp
      rw [unsortL_at (by rw [l1, h.len]; exact hp), l1, sortL_at (by rw [h.len]; exact h1), h2]
  · apply num_ext
    · rw [sortL_length, l2, h.len]
    · intro i hi
      rw [sortL_length, l2, h.len] at hi
      rw [sortL_at (by rw [l2, h.len]; exact hi), l2, unsortL_at (by rw [h.len]; exact h.lt i hi), h.back i hi]
end Go.Proofs.Ytendcmdpmohacaa

/-
  There and back: of what a block puts the block is got. Plain.
-/
namespace Go.Proofs.Ytendcmdpmohacaa

theorem Ahd.num_ {tl bs : List UInt8} {t : Nat} {L : List (Nat × Bool)} {v : Nat} (hv : v ≤ 1048576) (B : Chs) (d : Dec) (h : Ahd tl bs d (track t B (numEvs v) ++ L)) :
    ∃ d', getNum bs t B d = .ok (v : Int) (learned t B (numEvs v)) d' ∧ Ahd tl bs d' L := by
  have h0 : Ahd tl bs d (track t B (numEvs v ++ []) ++ L) := by rw [List.append_nil]; exact h
  exact Ahd.num hv B d [] h0
theorem Ahd.sgn_ {tl bs : List UInt8} {t : Nat} {L : List (Nat × Bool)} {x : Int} (h1 : -1048576 ≤ x) (h2 : x ≤ 1048576) (B : Chs) (d : Dec) (h : Ahd tl bs d (track t B (sgnEvs x) ++ L)) :
    ∃ d', getSgn bs t B d = .ok x (learned t B (sgnEvs x)) d' ∧ Ahd tl bs d' L := by
  have h0 : Ahd tl bs d (track t B (sgnEvs x ++ []) ++ L) := by rw [List.append_nil]; exact h
  exact Ahd.sgn h1 h2 B d [] h0
theorem Ahd.vals {tl bs : List UInt8} {t : Nat} {L : List (Nat × Bool)} : ∀ (l acc : List Int) (B : Chs) (d : Dec), (∀ v ∈ l, -1048576 ≤ v ∧ v ≤ 1048576) → Ahd tl bs d (evsT B (numsT t l) ++ L) →
    ∃ d', getVals bs (t + 1) l.length acc B d = .ok (acc ++ l) (chsT B (numsT t l)) d' ∧ Ahd tl bs d' L
  | [], acc, B, d, _, h => ⟨d, by rw [List.append_nil]; rfl, h⟩
  | v :: l, acc, B, d, hv, h => by
    have h' : Ahd tl bs d (track (t + 1) B (sgnEvs v) ++ (evsT (learned (t + 1) B (sgnEvs v)) (numsT t l) ++ L)) := by
      rw [← List.append_assoc]
      exact h
    obtain ⟨h1, h2⟩ := hv v (List.mem_cons_self ..)
    obtain ⟨d1, hg, ha⟩ := Ahd.sgn_ h1 h2 B d h'
    obtain ⟨d2, hg2, ha2⟩ := Ahd.vals l (acc ++ [v]) _ d1 (fun u hu => hv u (List.mem_cons_of_mem _ hu)) ha
    refine ⟨d2, ?_, ha2⟩
    show getVals bs (t + 1) (l.length + 1) acc B d = _
    unfold getVals
    rw [hg]
    show getVals bs (t + 1) l.length (acc ++ [v]) (learned (t + 1) B (sgnEvs v)) d1 = _
    rw [hg2, List.append_assoc]
    rfl
/-- A block is got that was put. -/
theorem Ahd.blk {tl bs : List UInt8} {t n : Nat} {L : List (Nat × Bool)} {l : List Int} (hl : l.length = n) (hn : n ≤ 1000) (hv : ∀ v ∈ l, -1048576 ≤ v ∧ v ≤ 1048576) (B : Chs) (d : Dec) (h : Ahd tl bs d (evsT B (putsT t l) ++ L)) :
    ∃ d', getBlk bs t n B d = .ok (unsortL l) (chsT B (putsT t l)) d' ∧ Ahd tl bs d' L := by
  have hu := upTo_le l
  have h' : Ahd tl bs d (track t B (numEvs (upTo l)) ++ (evsT (learned t B (numEvs (upTo l))) (numsT t (l.take (upTo l))) ++ L)) := by
    rw [← List.append_assoc]
    exact h
  obtain ⟨d1, hg, ha⟩ := Ahd.num_ (by omega) B d h'
  obtain ⟨d2, hg2, ha2⟩ := Ahd.vals (l.take (upTo l)) [] _ d1 (fun v k => hv v (List.mem_of_mem_take k)) ha
  refine ⟨d2, ?_, ha2⟩
  rw [List.length_take, Nat.min_eq_left hu, List.nil_append] at hg2
  unfold getBlk
  rw [hg]
  show (if (n : Int) < (upTo l : Int) then GotL.bad 51 else endL n (upTo l) (getVals bs (t + 1) (upTo l) [] (learned t B (numEvs (upTo l))) d1)) = _
  rw [if_neg (by omega), hg2]
  have hfill : fillL n (l.take (upTo l)) = l := by
    unfold fillL
    rw [List.length_take, Nat.min_eq_left hu, ← hl]
    exact (upTo_rest l).symm
  show (if 0 < upTo l ∧ numAt (l.take (upTo l)) (upTo l - 1) = 0 then GotL.bad 51 else GotL.ok (unsortL (fillL n (l.take (upTo l)))) (chsT B (putsT t l)) d2) = _
  rw [if_neg, hfill]
  rintro ⟨h0, hz⟩
  rw [take_num (by omega)] at hz
  exact upTo_last l h0 hz
end Go.Proofs.Ytendcmdpmohacaa

/-
  What the laws of layer 7 ask of package lift: contracts of its exported functions, by the plain blocks. No condition. And the live question, out of these.
-/
namespace Go.Proofs.Ytendcmdpmohacaa
open Go.RowKit

def Js (b : List Int) : Prop := ∀ i, i < b.length → InI (numAt b i)
def b5L : List Int := 5 :: List.replicate 15 0
def x5L : List Int := [0, 0, 1, 0, 0, 1, 2, 0, 1, 2, 5, 0, 0, 0, 0, 0]
theorem live7_fwd : liftF b5L = (x5L, 0) := by decide +kernel
theorem live7_bck : liftB x5L = (b5L, 0) := by decide +kernel
theorem live7_o8 : (ints (orderL 8)).length = 64 := by decide +kernel
theorem live7_o4 : (ints (orderL 4)).length = 16 ∧ (ints (orderL 4)).getD 2 0 = 4 := by decide +kernel
theorem js_small {b : List Int} (h : b.all (fun v => decide (-1000 ≤ v) && decide (v ≤ 1000)) = true) : Js b := by
  intro i hi
  rw [List.all_eq_true] at h
  have := h b[i] (List.getElem_mem hi)
  unfold numAt
  rw [List.getD_eq_getElem?_getD, List.getElem?_eq_getElem hi]
  simp at this
  unfold InI
  simp
  omega

/-- Numbers as an argument: each is an int. -/
theorem open_ints {H : Type} {enc : TypeId × Value → H} {w : World} {base : Nat} {spare : Nat → Bool} {held : Bool} {n : Nat} {v : Value} {d : DataW H} {ps : List MemPlace} (h : DataW.trod enc Try.prog w base spare held n 29 [v] = some (d, ps)) :
    ∃ (A : Option Addr) (len cap : Nat) (l : List Int), v = .slice A len cap ∧ l.length = len ∧ len ≤ maxLen ∧ Src w (.slice A len cap) (l.map I64) ∧ Js l := by
  have : Inhabited {x : Int // InI x} := ⟨⟨0, by unfold InI; omega⟩⟩
  obtain ⟨A, len, cap, l, hv, hl, hm, hs⟩ := open_cells (α := {x : Int // InI x}) (fun x => I64 x.1) Try.underlying29 (by kernel_rfl) (fun n' cs x hx => by
    obtain ⟨z, h0, -, v0⟩ := DataW.trod_int Try.underlying3 hx
    simp [Lit.wf, IntKind.min, IntKind.max, IntKind.signed, IntKind.bits] at v0
    exact ⟨⟨z, by unfold InI; omega⟩, h0⟩) h
  refine ⟨A, len, cap, l.map (·.1), hv, by rw [List.length_map, hl], hm, ?_, fun i hi => ?_⟩
  · rw [List.map_map]
    exact hs
  · rw [List.length_map] at hi
    unfold numAt
    rw [List.getD_eq_getElem?_getD, List.getElem?_map, List.getElem?_eq_getElem hi]
    exact (l[i]).2
end Go.Proofs.Ytendcmdpmohacaa

/-
  What the laws of layer 8 ask of the book and of package quant: contracts of the exported functions that they call, by the plain blocks. No condition.
-/
namespace Go.Proofs.Ytendcmdpmohacaa
open Go.RowKit

/-- Have two books the same chances? -/
def sameC (B C : Chs) : Bool := (List.range 592).all fun j => B j == C j
/-- What a level stands for. -/
def valueR (l s : Int) : Int := if s < 1 then 0 else IntKind.i64.wrap (l * s)
/-- Getting a block, or the error. -/
def gotBlk (bs : List UInt8) (t n : Int) (B : Chs) (d : Dec) : GotL := if okGet t n then getBlk bs t.toNat n.toNat B d else .bad 1

/-- What putting a block answers, and does. -/
def PutPost8 (Bo : World → Nat → Chs → Prop) (En : World → Nat → List Nat → Enc → Prop) (w : World) (b : Nat) (B : Chs) (p : Nat) (D : List Nat) (e : Enc) (t : Int) (xs : List Int) (r : Ending) (w' : World) : Prop :=
  if okPut xs t then r = .returned (.int .i64 0) ∧ ∃ D', Bo w' b (chsT B (putsT t.toNat (sortL xs))) ∧ En w' p D' (puts e (evsT B (putsT t.toNat (sortL xs)))) ∧ Fr (b :: p :: D) w w' ∧ ∀ k ∈ D', k ∈ D ∨ w.heap.size ≤ k
  else r = .returned (.int .i64 1) ∧ Fr [] w w'
/-- What getting one answers, and does. -/
def GetPost8 (Bo : World → Nat → Chs → Prop) (De : World → Nat → List Nat → List UInt8 → Dec → Prop) (w : World) (b y : Nat) (K : List Nat) (bs : List UInt8) (g : GotL) (r : Ending) (w' : World) : Prop :=
  match g with
  | .bad e => (∃ A c, r = .returned (.tuple #[.slice A 0 c, .int .i64 e]) ∧ Src w' (.slice A 0 c) []) ∧ Fr [b, y] w w' ∧ (e = 1 → Fr [] w w')
  | .ok l B d => (∃ A c, r = .returned (.tuple #[.slice A l.length c, .int .i64 0]) ∧ Src w' (.slice A l.length c) (l.map I64) ∧ ∀ k, (Value.slice A l.length c).ownBlock = some k → w.heap.size ≤ k) ∧ Bo w' b B ∧ De w' y K bs d ∧ Fr [b, y] w w'

/-- The contracts. Bo w b B: at b there is a book with the chances B. -/
structure QuantSpec (X : EncSpec) (Y : DecSpec) where
  Bo : World → Nat → Chs → Prop
  lt : ∀ {w b B}, Bo w b B → b < w.heap.size
  fr : ∀ {w w' b B S}, Bo w b B → Fr S w w' → b ∉ S → Bo w' b B
  new : ∀ w, Calls Try.prog 20 #[] w fun r w' => ∃ b, r = .returned (pt b) ∧ Bo w' b newBook ∧ Fr [] w w' ∧ w.heap.size ≤ b
  same : ∀ w b B c C, Bo w b B → Bo w c C → Calls Try.prog 33 #[pt b, pt c] w fun r w' => r = .returned (.bool (sameC B C)) ∧ Fr [] w w'
  copy : ∀ w b B, Bo w b B → Calls Try.prog 32 #[pt b] w fun r w' => ∃ c, r = .returned (pt c) ∧ Bo w' c B ∧ Fr [] w w' ∧ w.heap.size ≤ c
  step : ∀ w (q x y : Int), InI q → InI x → InI y → Calls Try.prog 9 #[.int .i64 q, .int .i64 x, .int .i64 y] w fun r w' => r = .returned (.tuple #[.int .i64 (stepR q x y).1, .int .i64 (stepR q x y).2]) ∧ Fr [] w w'
  level : ∀ w (v s : Int), -1099511627776 ≤ v → v ≤ 1099511627776 → InI s → s ≤ 1099511627776 → Calls Try.prog 12 #[.int .i64 v, .int .i64 s] w fun r w' => r = .returned (.int .i64 (levelOf v s)) ∧ Fr [] w w'
  value : ∀ w (l s : Int), -1099511627776 ≤ l → l ≤ 1099511627776 → InI s → s ≤ 1099511627776 → Calls Try.prog 14 #[.int .i64 l, .int .i64 s] w fun r w' => r = .returned (.int .i64 (valueR l s)) ∧ Fr [] w w'
  coarse : ∀ w (A : Option Addr) (c : Nat) (b : List Int) (q : Int), Src w (.slice A b.length c) (b.map I64) → b.length ≤ 1000 → Js b → InI q → Calls Try.prog 15 #[.slice A b.length c, .int .i64 q] w (NumErr w (coarseL b q))
  fine : ∀ w (A : Option Addr) (c : Nat) (b : List Int) (q : Int), Src w (.slice A b.length c) (b.map I64) → b.length ≤ 1000 → Js b → InI q → Calls Try.prog 17 #[.slice A b.length c, .int .i64 q] w (NumErr w (fineL b q))
  put : ∀ w b B p D e (A : Option Addr) (c : Nat) (xs : List Int) (t : Int), Bo w b B → X.En w p D e → b ∉ p :: D → FineB B → e.Ok → e.n ≤ 50000 → Src w (.slice A xs.length c) (xs.map I64) → (0 < xs.length → ∀ k, (Value.slice A xs.length c).ownBlock = some k → k ∉ b :: p :: D) → xs.length ≤ 1000 → Js xs → InI t →
    Calls Try.prog 24 #[pt b, pt p, .int .i64 t, .slice A xs.length c] w (PutPost8 Bo X.En w b B p D e t xs)
  get : ∀ w b B y K bs d (t n : Int), Bo w b B → Y.De w y K bs d → b ∉ y :: K → FineB B → d.rest < 4294967296 → 16777216 ≤ d.r → d.r ≤ 4294967295 → d.i ≤ bs.length → bs.length ≤ 100000 → InI t → InI n →
    Calls Try.prog 30 #[pt b, pt y, .int .i64 t, .int .i64 n] w (GetPost8 Bo Y.De w b y K bs (gotBlk bs t n B d))
  putNilB : ∀ w p D e (A : Option Addr) (c : Nat) (xs : List Int) (t : Int), X.En w p D e → Src w (.slice A xs.length c) (xs.map I64) → xs.length ≤ 1000 → Js xs → InI t → Calls Try.prog 24 #[.pointer none, pt p, .int .i64 t, .slice A xs.length c] w fun r w' => r = .returned (.int .i64 1) ∧ Fr [] w w'
  putNilX : ∀ w b B (A : Option Addr) (c : Nat) (xs : List Int) (t : Int), Bo w b B → Src w (.slice A xs.length c) (xs.map I64) → xs.length ≤ 1000 → Js xs → InI t → Calls Try.prog 24 #[pt b, .pointer none, .int .i64 t, .slice A xs.length c] w fun r w' => r = .returned (.int .i64 1) ∧ Fr [] w w'
  getNilB : ∀ w (t n : Int), InI t → InI n → Calls Try.prog 30 #[.pointer none, .pointer none, .int .i64 t, .int .i64 n] w fun r w' => (∃ A c, r = .returned (.tuple #[.slice A 0 c, .int .i64 1])) ∧ Fr [] w w'
  getNilX : ∀ w b B (t n : Int), Bo w b B → InI t → InI n → Calls Try.prog 30 #[pt b, .pointer none, .int .i64 t, .int .i64 n] w fun r w' => (∃ A c, r = .returned (.tuple #[.slice A 0 c, .int .i64 1])) ∧ Fr [] w w'

/-! The live question's numbers. -/
def b8L : List Int := [0, 0, 0, 0, -3, 0, 0, 0, 0, 0, 0, 0, 0, 0, 0, 0]
def lb8 : Chs := chsT newBook (putsT 2 (sortL b8L))
def le8 : Enc := puts encNew (evsT newBook (putsT 2 (sortL b8L)))
def bs8 : List UInt8 := bytesOf le8.n le8.v
theorem live8_ok : okPut b8L 2 = true ∧ okGet 2 16 = true ∧ stepR 13 2 1 = (17, 0) ∧ levelOf (-20) 17 = -1 := by decide +kernel
theorem live8_block : (sortL b8L).length = 16 ∧ unsortL (sortL b8L) = b8L ∧ ∀ v ∈ sortL b8L, -1048576 ≤ v ∧ v ≤ 1048576 := by decide +kernel
theorem live8_fine : FineB lb8 ∧ le8.Ok := ⟨chsT_fine _ newBook_fine, puts_ok encNew_ok (evsT_rights _ newBook_fine)⟩
theorem live8_n : le8.n ≤ 800 ∧ 4 ≤ le8.n := by
  have h1 := puts_n (evsT newBook (putsT 2 (sortL b8L))) encNew
  have h2 := puts_le (evsT newBook (putsT 2 (sortL b8L))) encNew
  have h3 := evsT_length (putsT 2 (sortL b8L)) newBook (putsT_short live8_block.2.2 (by rw [live8_block.1]; omega))
  have h4 : (putsT 2 (sortL b8L)).length ≤ 17 := by
    have := upTo_le (sortL b8L)
    rw [live8_block.1] at this
    unfold putsT numsT
    rw [List.length_cons, List.length_map, List.length_take]
    omega
  change le8.n ≤ 4 + _ at h1
  change 4 ≤ le8.n at h2
  omega
theorem live8_got : ∃ d, gotBlk bs8 2 16 newBook (decOpen bs8) = .ok b8L lb8 d ∧ d.i = bs8.length ∧ d.rest = 0 := by
  have h0 : Ahd [] bs8 (decOpen bs8) (evsT newBook (putsT 2 (sortL b8L)) ++ []) := by
    have := ahd_open (L := evsT newBook (putsT 2 (sortL b8L))) (evsT_rights _ newBook_fine) []
    rw [List.append_nil] at this
    rw [List.append_nil]
    exact this
  obtain ⟨d, hg, ha⟩ := Ahd.blk (n := 16) live8_block.1 (by omega) live8_block.2.2 newBook (decOpen bs8) h0
  refine ⟨d, ?_, ha.done.1, ha.done.2⟩
  unfold gotBlk
  rw [live8_ok.2.1, live8_block.2.1] at *
  exact hg
end Go.Proofs.Ytendcmdpmohacaa

/-
  Numbers in a part of a block, changed in place: plain facts, cells, what is copied into a part. No program text but the type []int.
-/
namespace Go.Proofs.Ytendcmdpmohacaa
open Go.RowKit

/-! A list laid over another. -/
def inlay (L : List Int) (o : Nat) (cs : List Int) : List Int := L.take o ++ (cs ++ L.drop (o + cs.length))
theorem inlay_get (L cs : List Int) (o : Nat) (h : o + cs.length ≤ L.length) (j : Nat) : (inlay L o cs)[j]? = if o ≤ j ∧ j < o + cs.length then cs[j - o]? else L[j]? := by
  unfold inlay
  by_cases h1 : j < o
  · rw [if_neg (by omega), List.getElem?_append_left (by simp; omega), List.getElem?_take, if_pos h1]
  · rw [List.getElem?_append_right (by simp; omega)]
    have e1 : (L.take o).length = o := by simp; omega
    rw [e1]
    by_cases h2 : j < o + cs.length
    · rw [if_pos ⟨by omega, h2⟩, List.getElem?_append_left (by omega)]
    · rw [if_neg (by omega), List.getElem?_append_right (by omega), List.getElem?_drop]
      congr 1
      omega
theorem inlay_num (L cs : List Int) (o : Nat) (h : o + cs.length ≤ L.length) (j : Nat) : numAt (inlay L o cs) j = if o ≤ j ∧ j < o + cs.length then numAt cs (j - o) else numAt L j := by
  unfold numAt
  rw [List.getD_eq_getElem?_getD, inlay_get _ _ _ h]
  split <;> rw [List.getD_eq_getElem?_getD]
theorem inlay_length (L cs : List Int) (o : Nat) (h : o + cs.length ≤ L.length) : (inlay L o cs).length = L.length := by
  unfold inlay
  simp
  omega
def rowFrom (xs : List Int) (o : Nat) : Nat → Int := fun i => numAt xs (o + i)
def tab (n : Nat) (f : Nat → Int) : List Int := (List.range n).map f
theorem tab_length (n : Nat) (f : Nat → Int) : (tab n f).length = n := by simp [tab]
theorem tab_at {n : Nat} {f : Nat → Int} {i : Nat} (h : i < n) : numAt (tab n f) i = f i := numAt_map h
theorem inlay_tab {L : List Int} {o n : Nat} {f : Nat → Int} (h : o + n ≤ L.length) (j : Nat) : numAt (inlay L o (tab n f)) j = if o ≤ j ∧ j < o + n then f (j - o) else numAt L j := by
  rw [inlay_num _ _ _ (by rw [tab_length]; exact h), tab_length]
  by_cases h1 : o ≤ j ∧ j < o + n
  · rw [if_pos h1, if_pos h1, tab_at (by omega)]
  · rw [if_neg h1, if_neg h1]
theorem inlay_tab_length {L : List Int} {o n : Nat} {f : Nat → Int} (h : o + n ≤ L.length) : (inlay L o (tab n f)).length = L.length := inlay_length _ _ _ (by rw [tab_length]; exact h)
theorem inlay_tab_of {L ys : List Int} {o n : Nat} {f : Nat → Int} (h : o + n ≤ L.length) (hl : ys.length = L.length) (h1 : ∀ j, j < n → numAt ys (o + j) = f j) (h2 : ∀ j, j < o ∨ o + n ≤ j → numAt ys j = numAt L j) : ys = inlay L o (tab n f) := by
  apply num_ext
  · rw [hl, inlay_tab_length h]
  · intro j hj
    rw [inlay_tab h]
    by_cases hj2 : o ≤ j ∧ j < o + n
    · rw [if_pos hj2, ← h1 _ (by omega)]
      congr 1
      omega
    · rw [if_neg hj2]
      exact h2 j (by omega)
theorem num_set {L : List Int} {i : Nat} {z : Int} (h : i < L.length) (j : Nat) : numAt (L.set i z) j = if j = i then z else numAt L j := by
  unfold numAt
  rw [List.getD_eq_getElem?_getD, List.getElem?_set]
  by_cases hj : j = i
  · subst hj
    simp [h]
  · rw [if_neg (fun e => hj e.symm), if_neg hj, ← List.getD_eq_getElem?_getD]
theorem num_take {L : List Int} {n j : Nat} (h : j < n) : numAt (L.take n) j = numAt L j := take_num h
theorem num_far {L : List Int} {j : Nat} (h : L.length ≤ j) : numAt L j = 0 := by
  unfold numAt
  rw [List.getD_eq_getElem?_getD, List.getElem?_eq_none h]
  rfl

def zero8 : List Int := List.replicate 8 0
theorem zero8_length : zero8.length = 8 := by decide
theorem zero8_cells : (zero8.map I64).toArray = #[.int .i64 0, .int .i64 0, .int .i64 0, .int .i64 0, .int .i64 0, .int .i64 0, .int .i64 0, .int .i64 0] := rfl
/-! A step of a row and back, by places. -/
def liftStep (m : Nat) (r : Nat → Int) (x : Nat) : Int := if x < m then (r (2 * x) + r (2 * x + 1)) / 2 else r (2 * (x - m)) - r (2 * (x - m) + 1)
def liftUnstep (m : Nat) (r : Nat → Int) (x : Nat) : Int := r (x / 2) - r (m + x / 2) / 2 + (if x % 2 = 0 then r (m + x / 2) else 0)

/-- Block g is numbers. -/
def NumsAt (w : World) (T : TypeId) (g C : Nat) (xs : List Int) : Prop := Own w T (.slice (some ⟨g, 0, none⟩) xs.length C) (xs.map I64)
section
variable {w w' w0 : World} {T : TypeId} {g C : Nat} {xs : List Int}
theorem NumsAt.lt (h : NumsAt w T g C xs) : g < w.heap.size := Own.lt h g rfl
theorem NumsAt.cell (h : NumsAt w T g C xs) {j : Nat} (hj : j < xs.length) : w.cell? ⟨g, j, none⟩ = some (.int .i64 (numAt xs j)) ∧ w.frozen? ⟨g, j, none⟩ = false := by
  obtain ⟨h1, h2, -⟩ := Own.at_ h (j := j) (by simpa using hj)
  refine ⟨?_, h2⟩
  unfold numAt
  rw [h1, List.getElem?_map, List.getElem?_eq_getElem hj, List.getD_eq_getElem?_getD, List.getElem?_eq_getElem hj]; rfl
theorem NumsAt.set (h : NumsAt w T g C xs) (j : Nat) (z : Int) : NumsAt (w.setCell ⟨g, j, none⟩ (.int .i64 z)) T g C (xs.set j z) := by
  have := Own.set h j (.int .i64 z)
  unfold NumsAt
  rw [List.map_set, List.length_set]
  exact this
theorem NumsAt.fr {S : List Nat} (h : NumsAt w T g C xs) (hf : Fr S w w') (hg : g ∉ S) : NumsAt w' T g C xs := Own.fr h hf (fun k hk => by injection hk with hk; exact hk ▸ hg)
theorem NumsAt.src (h : NumsAt w T g C xs) : Src w (.slice (some ⟨g, 0, none⟩) xs.length C) (xs.map I64) := Own.src h
theorem Own.slice_ {w : World} {e : TypeId} {g C n : Nat} {xs : List Value} (h : Own w e (.slice (some ⟨g, 0, none⟩) n C) xs) : ∃ cur, Blk w g e cur ∧ xs.length ≤ C ∧ C ≤ maxLen ∧ cur.size = C ∧ cur.toList.take xs.length = xs := by
  rcases h.form with ⟨h1, -⟩ | ⟨g', cap, cur, h1, hb, h2, h3, h4, h5⟩
  · cases h1
  · injection h1 with e1 e2 e3
    injection e1 with e1
    injection e1 with e1
    subst e1 e2 e3
    exact ⟨cur, hb, h2, h3, h4, h5⟩
theorem NumsAt.cap (h : NumsAt w T g C xs) : xs.length ≤ C := by
  obtain ⟨cur, -, h1, -⟩ := Own.slice_ h
  simpa using h1
theorem add_off (g o j : Nat) : (⟨g, o, none⟩ : Addr).add j = ⟨g, o + j, none⟩ := by
  unfold Addr.add
  split
  · rename_i h; subst h; rfl
  · rfl
/-- A part's numbers, to be read. -/
theorem NumsAt.part (h : NumsAt w T g C xs) {o n c : Nat} (hn : o + n ≤ xs.length) (hc : n ≤ c) : Src w (.slice (some ⟨g, o, none⟩) n c) ((tab n (rowFrom xs o)).map I64) := by
  refine .inr ⟨⟨g, o, none⟩, c, by simp [tab_length], by simp [tab_length]; exact hc, fun j u hu => ?_⟩
  have hj : j < n := by
    have := (List.getElem?_eq_some_iff.1 hu).1
    simpa [tab_length] using this
  rw [add_off, (h.cell (j := o + j) (by omega)).1, ← hu, List.getElem?_map, tab, List.getElem?_map, List.getElem?_range hj]
  rfl
theorem MineN.at_ {A : Option Addr} {n c : Nat} {ns : List Int} (h : MineN w0 w (.slice A n c) ns) (hne : 0 < ns.length) : ∃ g, A = some ⟨g, 0, none⟩ ∧ n = ns.length ∧ w0.heap.size ≤ g ∧ NumsAt w 3 g c ns := by
  obtain ⟨g, rfl, hg, -, -, -, hn, -⟩ := h.cell (j := 0) hne
  subst hn
  exact ⟨g, rfl, rfl, hg, h.own⟩
theorem NumsAt.mine (h : NumsAt w 3 g C xs) (hf : Fr [] w0 w) (hg : w0.heap.size ≤ g) : MineN w0 w (.slice (some ⟨g, 0, none⟩) xs.length C) xs :=
  ⟨h, hf, fun k hk => by injection hk with hk; exact hk ▸ hg⟩
theorem NumsAt.lit (w : World) (T : TypeId) (xs : List Int) (n : Nat) (hn : xs.length = n) (hm : n ≤ maxLen) : NumsAt (w.alloc (.cells (xs.map I64).toArray T)) T w.heap.size n xs := by
  have := Own.lit w T (xs.map I64).toArray n (by simpa using hn) hm
  unfold NumsAt
  rw [hn]
  simpa using this
end

/-! An array's slices. -/
set_option maxRecDepth 20000 in
/-- copy of numbers into a part, as a step. -/
theorem wpList_copy_num {w : World} {ops : Array Oper} {rest : List Oper} {o : Oper} {a : Act} {Q : Exit → Act → World → Prop} (d s : Operand)
    (hw : Region.wanted o (yielded ops a.tmps) = true) (ho : o.op = .call { callee := .builtin .copy, args := #[d, s], argTypes := #[29, 29] })
    (T : TypeId) (g C : Nat) (xs : List Int) (off n c : Nat) (src : Value) (ys : List Int) (hv : a.eval d = .slice (some ⟨g, off, none⟩) n c) (hsv : a.eval s = src)
    (hR : NumsAt w T g C xs) (hn : off + n ≤ xs.length) (hs : Src w src (ys.map I64))
    (h : ∀ w', NumsAt w' T g C (inlay xs off (ys.take n)) → Fr [g] w w' → wpList Try.prog ops Q rest (a.put o.dst (.int .i64 ((min ys.length n : Nat) : Int))) w') : wpList Try.prog ops Q (o :: rest) a w := by
  refine wpList_step fun K hK => ?_
  rw [if_pos hw]
  obtain ⟨i, hi, hz, h1, h2⟩ := info_parts info_num
  have hsz : (Try.prog.info? 3).map (·.size) = some 1 := by rw [hi]; simp [h1]
  obtain ⟨sp, sc, hsv2⟩ : ∃ sp sc, src = .slice sp ys.length sc := by
    rcases hs with ⟨e, h0⟩ | ⟨ad', c', e, -⟩
    · exact ⟨none, 0, by have := congrArg List.length h0; simp at this; rw [this]; exact e⟩
    · exact ⟨some ad', c', by rw [e]; simp⟩
  by_cases h0 : min ys.length n = 0
  · have e1 : ys.take n = [] := List.eq_nil_of_length_eq_zero (by rw [List.length_take, Nat.min_comm]; exact h0)
    have hrun := run_copy_none (P := Try.prog) w 29 29 o.type 3 (some ⟨g, off, none⟩) sp n c ys.length sc Try.underlying29 hsz h0
    unfold Oper.wp
    simp [execOp, ho, resolve, invoke, builtin, hv, hsv, hsv2, hrun, Result.andThen]
    refine hK _ _ ?_
    have := h w (by rw [e1]; unfold inlay; simp; exact hR) (Fr.refl _ _)
    rw [h0] at this
    exact this
  · have hpos : 0 < n := by omega
    rcases hs with ⟨e, h0'⟩ | ⟨ad', c', e, -, hcell⟩
    · have := congrArg List.length h0'
      rw [List.length_map, List.length_nil] at this
      omega
    rw [hsv2] at e
    injection e with e1 e2 e3
    subst e1
    obtain ⟨cur, hb, hc1, hc2, hc3, hc4⟩ := Own.slice_ hR
    simp only [List.length_map] at hc1 hc4
    have hl : ((ys.take n).map I64).length = min ys.length n := by simp [Nat.min_comm]
    have hrun := run_copy_row (P := Try.prog) w 29 29 o.type 3 g off n c ad' ys.length sc cur T ((ys.take n).map I64) Try.underlying29 hsz hb.here hl
      (fun j u hu => hcell j u (by
        rw [List.getElem?_map, List.getElem?_take] at hu
        split at hu
        · rw [List.getElem?_map]; exact hu
        · cases hu)) (by rw [hl]; omega)
      (fun u hu => by obtain ⟨b, _, rfl⟩ := List.mem_map.1 hu; rfl)
    unfold Oper.wp
    simp only [execOp, ho, resolve, invoke, builtin, Sem.run_bind, Sem.run_pure, Result.andThen_ok, List.map_toArray, List.map_cons, List.map_nil, hv, hsv, hsv2, hrun]
    have hO := own_of_setRow (n := xs.length) hb hc1 hc2 (cur.toList.take off ++ ((ys.take n).map I64 ++ cur.toList.drop (off + ((ys.take n).map I64).length))) (by
      rw [List.length_append, List.length_append, hl, List.length_take, List.length_drop, Array.length_toList]
      omega)
    have hm2 : off + (ys.take n).length ≤ xs.length := by simp; omega
    have e1 : (cur.toList.take off ++ ((ys.take n).map I64 ++ cur.toList.drop (off + ((ys.take n).map I64).length))).take xs.length = (inlay xs off (ys.take n)).map I64 := by
      apply List.ext_getElem?
      intro j
      have hy : ∀ j, j < xs.length → cur.toList[j]? = (xs[j]?).map I64 := fun j hj => by
        rw [← List.getElem?_map, ← hc4, List.getElem?_take, if_pos hj]
      have hin := inlay_get xs (ys.take n) off hm2 j
      rw [List.getElem?_map, hin, List.getElem?_take]
      by_cases hj : j < xs.length
      · rw [if_pos hj]
        by_cases h3 : j < off
        · rw [if_neg (by omega), List.getElem?_append_left (by simp; omega), List.getElem?_take, if_pos h3]
          exact hy j hj
        · have e0 : (cur.toList.take off).length = off := by rw [List.length_take, Array.length_toList]; omega
          rw [List.getElem?_append_right (by omega), e0]
          by_cases h4 : j < off + (ys.take n).length
          · rw [if_pos ⟨by omega, h4⟩, List.getElem?_append_left (by rw [List.length_map]; omega), List.getElem?_map]
          · rw [if_neg (by omega), List.getElem?_append_right (by rw [List.length_map]; omega), List.getElem?_drop, List.length_map, ← hy j hj]
            congr 1
            omega
      · rw [if_neg hj, if_neg (by omega), List.getElem?_eq_none (by omega)]
        rfl
    rw [e1] at hO
    have hls := inlay_length xs (ys.take n) off hm2
    have hk := h (w.setRow g (cur.toList.take off ++ ((ys.take n).map I64 ++ cur.toList.drop (off + ((ys.take n).map I64).length))).toArray) (by unfold NumsAt; rw [hls]; exact hO) ((Fr.refl [g] w).grown (row := some g) ⟨rfl, rfl, rfl, by simp, fun k _ hk => setRow_other w g k _ (fun e => hk (by simp [e]))⟩ (fun k hk => .inl (by simpa using hk.symm)))
    have e3 : (((ys.take n).map I64).length : Int) = ((min ys.length n : Nat) : Int) := by rw [hl]
    rw [← e3] at hk
    refine hK _ _ ?_
    rw [List.append_assoc]
    exact hk
end Go.Proofs.Ytendcmdpmohacaa

/-
  Contracts of the landed lift: side, within, isBlock, slices.Clone. Conditions: rows of bounded length.
-/
namespace Go.Proofs.Ytendcmdpmohacaa
open Go.RowKit

theorem lside_any (A : Option Addr) (n c : Nat) (w : World) (hn : n ≤ 1000000) :
    Calls Try.prog 62 #[.slice A n c] w fun e w' => e = .returned (.int .i64 (sideN n : Int)) ∧ w' = w := by
  by_cases h1 : n = 16
  · subst h1
    go_enter Try.func62, Try.ntmps62
    go_wp2_with fail
    go_ret
    exact ⟨rfl, rfl⟩
  · by_cases h2 : n = 64
    · subst h2
      go_enter Try.func62, Try.ntmps62
      go_wp2_with fail
      go_ret
      exact ⟨rfl, rfl⟩
    · have e1 : ((n : Int) == 16) = false := by simp; omega
      have e2 : ((n : Int) == 64) = false := by simp; omega
      have hs : sideN n = 0 := by unfold sideN; rw [if_neg h1, if_neg h2]
      rw [hs]
      clear h1 h2 hs
      go_enter Try.func62, Try.ntmps62
      go_wp2_with fail
      go_ret
      exact ⟨rfl, rfl⟩

end Go.Proofs.Ytendcmdpmohacaa

/-
  Contracts of the landed lift: isBlock, slices.Clone. Conditions: rows of bounded length.
-/
namespace Go.Proofs.Ytendcmdpmohacaa
open Go.RowKit

def isBlk (b : List Int) (m : Int) : Bool := !(sideN b.length == 0) && withinB b m
theorem lclone_any (A : Option Addr) (c : Nat) (xs : List Int) (w : World) (hs : Src w (.slice A xs.length c) (xs.map I64)) (hn : xs.length ≤ 1000000) :
    Calls Try.prog 58 #[.slice A xs.length c] w fun e w' => ∃ B d, e = .returned (.slice B xs.length d) ∧ MineN w w' (.slice B xs.length d) xs := by
  obtain ⟨n, hnn⟩ : ∃ n, n = xs.length := ⟨_, rfl⟩
  rw [← hnn] at hs hn ⊢
  have HS := Lib.hid hs
  have Hn := Lib.hid hnn
  clear hs hnn
  have q : ∀ (w : World) (a : Option Addr) (n c n' c' : Nat), (binOp .eql 29 (.slice a n c) (.slice none n' c')).run Try.prog w = .ok (.bool a.isNone) w := fun w a n c n' c' => Lib.run_eql_slice_nil w _ _ a n c n' c' Try.underlying29
  cases A with
  | none =>
    have h0 : n = 0 ∧ c = 0 ∧ xs = [] := by
      rcases HS.out with ⟨e, h⟩ | ⟨ad, c', e, -⟩
      · injection e with e1 e2 e3
        exact ⟨e2, e3, by simpa using h⟩
      · cases e
    obtain ⟨rfl, rfl, rfl⟩ := h0
    go_enter Try.func58, Try.ntmps58
    go_wp2_with fail
    go_ret
    exact ⟨none, 0, rfl, MineN.nil (Fr.refl _ _)⟩
  | some ad =>
    have hw1 : Own (w.alloc (.cells #[] 3)) 3 (.slice (some ⟨w.heap.size, 0, none⟩) 0 0) (([] : List Int).map I64) := Own.lit w 3 #[] 0 rfl (by simp [maxLen])
    go_enter Try.func58, Try.ntmps58
    go_wp2_with (at_builtin; refine wp_append_num _ _ (.slice (some ⟨w.heap.size, 0, none⟩) 0 0) [] (.slice (some ad) n c) xs rfl rfl rfl rfl hw1 (HS.out.fr0 ((Fr.refl _ _).alloc _)) (by simp; have := Hn.out; omega) ?_)
    intro B d w1 hO hG
    have hM0 : MineN w (w.alloc (.cells #[] 3)) (.slice (some ⟨w.heap.size, 0, none⟩) 0 0) [] := by
      refine ⟨hw1, (Fr.refl _ _).alloc _, fun k hk => ?_⟩
      have : w.heap.size = k := by simpa [Value.ownBlock] using hk
      omega
    have hM := hM0.appended (ms := xs) (by exact hO) hG
    rw [List.nil_append] at hM
    rw [← Hn.out] at hM ⊢
    have HM := Lib.hid hM
    clear hM hM0 hO hG hw1
    go_wp2_with fail
    go_ret
    exact ⟨B, d, rfl, HM.out⟩
end Go.Proofs.Ytendcmdpmohacaa

/-
  Contracts of the landed lift: Order. Condition: the number is an int's.
-/
namespace Go.Proofs.Ytendcmdpmohacaa
open Go.RowKit

theorem lorder_bad (n : Int) (w : World) (h4 : n ≠ 4) (h8 : n ≠ 8) :
    Calls Try.prog 61 #[.int .i64 n] w (NumsPost w []) := by
  have t4 : (n != 4) = true := by simpa using h4
  have t8 : (n != 8) = true := by simpa using h8
  clear h4 h8
  go_enter Try.func61, Try.ntmps61
  go_wp2_with fail
  go_ret
  exact ⟨none, 0, rfl, .inl ⟨rfl, rfl⟩, Fr.refl _ _⟩

set_option maxRecDepth 20000 in
set_option maxHeartbeats 8000000 in
theorem lorder_good (N : Nat) (w : World) (hN : N = 4 ∨ N = 8) :
    Calls Try.prog 61 #[.int .i64 (N : Int)] w (NumsPost w (ints (orderN N))) := by
  have hN8 : N ≤ 8 := by omega
  have hN4 : 4 ≤ N := by omega
  obtain ⟨b4, hb4⟩ : ∃ b, b = ((N : Int) != 4) := ⟨_, rfl⟩
  obtain ⟨b8, hb8⟩ : ∃ b, b = ((N : Int) != 8) := ⟨_, rfl⟩
  have hbb : b4 = false ∨ (b4 = true ∧ b8 = false) := by
    rcases hN with rfl | rfl
    · exact .inl hb4
    · exact .inr ⟨hb4, hb8⟩
  have t4 : ((N : Int) != 4) = b4 := hb4.symm
  have t8 : ((N : Int) != 8) = b8 := hb8.symm
  obtain ⟨T, hT⟩ : ∃ T, T = 2 * N := ⟨_, rfl⟩
  obtain ⟨E, hE⟩ : ∃ E, E = 2 * N - 1 := ⟨_, rfl⟩
  obtain ⟨NN, hNN⟩ : ∃ NN, NN = N * N := ⟨_, rfl⟩
  have eT : 2 * (N : Int) = (T : Int) := by omega
  have eE : (T : Int) - 1 = (E : Int) := by omega
  have eNN : (N : Int) * (N : Int) = (NN : Int) := by rw [hNN]; simp
  have hNN64 : NN ≤ 64 := by rw [hNN]; exact Nat.mul_le_mul hN8 hN8
  have wT : IntKind.i64.wrap (T : Int) = (T : Int) := IntWalk.i64_in _ (by omega)
  have wE : IntKind.i64.wrap (E : Int) = (E : Int) := IntWalk.i64_in _ (by omega)
  have wNN : IntKind.i64.wrap (NN : Int) = (NN : Int) := IntWalk.i64_in _ (by omega)
  rw [orderN_to, ← hE]
  obtain ⟨R, hR⟩ : ∃ R, R = NumsPost w (ints (orderTo N E)) := ⟨_, rfl⟩
  have HR := Lib.hid hR
  rw [← hR]
  have hE15 : E ≤ 15 := by omega
  have HT := Lib.hid (And.intro hT hE)
  obtain ⟨i0, hi0, hz0, hs0, hb0⟩ := info_parts info_num
  clear hN hb4 hb8 hR hT hE hNN
  rcases hbb with rfl | ⟨rfl, rfl⟩
  all_goals
    go_enter Try.func61, Try.ntmps61
    go_wp2_with (at_make; refine wpList_make_own _ rfl _ _ 29 rfl 0 3 i0 _ 1 Try.underlying29 hi0 hz0 hs0 _ _ _ NN rfl rfl rfl (by rw [hb0]; omega) (by simp only [maxLen]; omega) (Nat.zero_le _) ?_)
    intro w2 hO hG
    have hM : MineN w w2 (.slice (some ⟨w.heap.size, 0, none⟩) 0 NN) [] := by
      refine ⟨hO, (Fr.refl _ _).grown hG (fun k hk => by cases hk), fun k hk => ?_⟩
      have : w.heap.size = k := by simpa [Value.ownBlock] using hk
      omega
    obtain ⟨g, hg⟩ : ∃ g, g = w.heap.size := ⟨_, rfl⟩
    rw [← hg] at hM ⊢
    have HM := Lib.hid hM
    clear hO hG hM hg hi0 hz0 hs0 hb0
    go_wp2_with fail
    go_loopw [3, 20] (fun s3 s20 wr => ∃ (s : Nat) (B : Option Addr) (d : Nat), s ≤ E ∧ s20 = .int .i64 (s : Int) ∧ s3 = .slice B (orderTo N s).length d ∧ MineN w wr (.slice B (orderTo N s).length d) (ints (orderTo N s))) (fun _ s20 _ => E - (intOf s20).toNat)
    case atStart => exact ⟨0, some ⟨g, 0, none⟩, NN, by omega, rfl, rfl, HM.out⟩
    case round =>
      clear HM
      obtain ⟨s, B, d, hs, rfl, rfl, hM⟩ := hrel
      by_cases hlt : s < E
      · have eg : decide (s < E) = true := by simpa using hlt
        obtain ⟨O, hO⟩ : ∃ O, O = orderTo N s := ⟨_, rfl⟩
        have hOl : O.length ≤ 1000 := by
          rw [hO]
          have h1 := orderTo_len N s
          have h2 : s * N ≤ 15 * 8 := Nat.mul_le_mul (by omega) hN8
          omega
        rw [← hO] at hM ⊢
        have HM := Lib.hid hM; have HO := Lib.hid hO
        clear hM hO
        go_wp2_with fail
        go_loopw [3, 24] (fun s3 s24 wr => ∃ (y : Nat) (B : Option Addr) (d : Nat), y ≤ N ∧ s24 = .int .i64 (y : Int) ∧ s3 = .slice B (O ++ diagTo N s y).length d ∧ MineN w wr (.slice B (O ++ diagTo N s y).length d) (ints (O ++ diagTo N s y))) (fun _ s24 _ => N - (intOf s24).toNat)
        case atStart => exact ⟨0, B, d, by omega, rfl, by simp [diagTo], by simpa [diagTo] using HM.out⟩
        case round =>
          clear HM
          obtain ⟨y, B, d, hy, rfl, rfl, hM⟩ := hrel
          have hdl := diagTo_len N s y
          have hsuc := diagTo_succ N s y
          obtain ⟨Q, hQ⟩ : ∃ Q, Q = O ++ diagTo N s y := ⟨_, rfl⟩
          have hQl : Q.length ≤ 1010 := by rw [hQ, List.length_append]; omega
          rw [← hQ] at hM ⊢
          have HQ := Lib.hid hQ; have Hsuc := Lib.hid hsuc; have HM := Lib.hid hM
          clear hQ hsuc hdl hM
          by_cases hlt2 : y < N
          · have eg2 : decide (y < N) = true := by simpa using hlt2
            have wsy : IntKind.i64.wrap ((s : Int) - (y : Int)) = (s : Int) - (y : Int) := IntWalk.i64_in _ (by omega)
            by_cases hin : y ≤ s ∧ s - y < N
            · obtain ⟨X, hX⟩ : ∃ X, X = s - y := ⟨_, rfl⟩
              have eX : (s : Int) - (y : Int) = (X : Int) := by omega
              have wX : IntKind.i64.wrap (X : Int) = (X : Int) := IntWalk.i64_in _ (by omega)
              have eXN : decide (X < N) = true := by simp; omega
              obtain ⟨YN, hYN⟩ : ∃ YN, YN = y * N := ⟨_, rfl⟩
              obtain ⟨K, hK⟩ : ∃ K, K = YN + X := ⟨_, rfl⟩
              have hYNl : YN ≤ 64 := by rw [hYN]; exact Nat.mul_le_mul (show y ≤ 8 by omega) hN8
              have eYN : (y : Int) * (N : Int) = (YN : Int) := by rw [hYN]; simp
              have eK : (YN : Int) + (X : Int) = (K : Int) := by rw [hK]; simp
              have wYN : IntKind.i64.wrap (YN : Int) = (YN : Int) := IntWalk.i64_in _ (by omega)
              have wK : IntKind.i64.wrap (K : Int) = (K : Int) := IntWalk.i64_in _ (by omega)
              have hnew : O ++ diagTo N s (y + 1) = Q ++ [K] := by
                rw [HQ.out, Hsuc.out, if_pos hin, List.append_assoc, hK, hYN, hX]
              have hnl : (O ++ diagTo N s (y + 1)).length = Q.length + 1 := by rw [hnew]; simp
              have hni : ints (O ++ diagTo N s (y + 1)) = ints Q ++ [(K : Int)] := by rw [hnew, ints_append]; rfl
              have Hnl := Lib.hid hnl; have Hni := Lib.hid hni; have Hil := Lib.hid (ints_length Q)
              clear hnew hnl hni hK hYN hX hin wsy
              go_wp2_with (at_builtin; refine wp_append_num _ _ (.slice B Q.length d) (ints Q) (.slice (some ⟨wr.heap.size, 0, none⟩) 1 1) [(K : Int)] rfl rfl rfl rfl (HM.out.own.alloc _) (Src.one (by simp [go_sem]; rfl)) (by rw [Hil.out]; simp; omega) ?_)
              intro B2 d2 w3 hO3 hG3
              have hM3 := MineN.appended (ms := [(K : Int)]) (HM.out.fr0 ((Fr.refl _ _).alloc (.cells #[.int .i64 (K : Int)] 3))) (by rw [List.map_append]; exact hO3) hG3
              rw [← Hni.out] at hM3
              rw [Hil.out] at hM3 ⊢
              have HM3 := Lib.hid hM3
              clear hO3 hG3 hM3
              go_wp2_with fail
              exact ⟨⟨y + 1, B2, d2, by omega, by simp, by rw [Hnl.out], by rw [Hnl.out]; exact HM3.out⟩, by simp [intOf]; omega⟩
            · have hsame : O ++ diagTo N s (y + 1) = Q := by rw [HQ.out, Hsuc.out, if_neg hin, List.append_nil]
              have Hsame := Lib.hid hsame
              have hex : (s : Int) - (y : Int) < 0 ∨ (0 ≤ (s : Int) - (y : Int) ∧ (N : Int) ≤ (s : Int) - (y : Int)) := by omega
              clear hsame hin
              rcases hex with h1 | ⟨h1, h2⟩
              · have e1 : decide (0 ≤ (s : Int) - (y : Int)) = false := decide_eq_false (by omega)
                go_wp2_with fail
                exact ⟨⟨y + 1, B, d, by omega, by simp, by rw [Hsame.out], by rw [Hsame.out]; exact HM.out⟩, by simp [intOf]; omega⟩
              · have e1 : decide (0 ≤ (s : Int) - (y : Int)) = true := decide_eq_true (by omega)
                have e2 : decide ((s : Int) - (y : Int) < (N : Int)) = false := decide_eq_false (by omega)
                go_wp2_with fail
                exact ⟨⟨y + 1, B, d, by omega, by simp, by rw [Hsame.out], by rw [Hsame.out]; exact HM.out⟩, by simp [intOf]; omega⟩
          · have eg2 : decide (y < N) = false := by simpa using hlt2
            have hyN : y = N := by omega
            have hnew : orderTo N (s + 1) = Q := by rw [orderTo_succ, HQ.out, HO.out, hyN]
            have Hnew := Lib.hid hnew
            clear hnew hyN
            go_wp2_with fail
            exact ⟨⟨s + 1, B, d, by omega, by simp, by rw [Hnew.out], by rw [Hnew.out]; exact HM.out⟩, by simp [intOf]; omega⟩
      · have eg : decide (s < E) = false := by simpa using hlt
        have hsE : s = E := by omega
        rw [hsE] at hM ⊢
        have HM := Lib.hid hM
        clear hM hsE
        go_wp2_with fail
        rw [HR.out]
        have hil := ints_length (orderTo N E)
        refine ⟨B, d, by rw [hil]; rfl, ?_, HM.out.fr⟩
        rw [hil]
        exact HM.out.src
theorem lorder_any (n : Int) (w : World) : Calls Try.prog 61 #[.int .i64 n] w (NumsPost w (ints (orderL n))) := by
  by_cases h4 : n = 4
  · subst h4
    exact lorder_good 4 w (.inl rfl)
  · by_cases h8 : n = 8
    · subst h8
      exact lorder_good 8 w (.inr rfl)
    · have : orderL n = [] := by unfold orderL; rw [if_neg (by omega)]
      rw [this]
      exact lorder_bad n w h4 h8
end Go.Proofs.Ytendcmdpmohacaa

/-
  Contracts of the landed lift: Sort, Unsort. Conditions: rows of bounded length.
-/
namespace Go.Proofs.Ytendcmdpmohacaa
open Go.RowKit

set_option maxRecDepth 20000 in
set_option maxHeartbeats 4000000 in
theorem lsort_any (A : Option Addr) (c : Nat) (b : List Int) (w : World) (hs : Src w (.slice A b.length c) (b.map I64)) (hb : b.length ≤ 1000) :
    Calls Try.prog 43 #[.slice A b.length c] w (NumsNew w (sortL b)) := by
  have HSd := Lib.hid fun w => lside_any A b.length c w (by omega)
  have HOr := Lib.hid fun w => lorder_any (sideN b.length : Int) w
  obtain ⟨L, hL⟩ : ∃ L, L = orderL (sideN b.length) := ⟨_, rfl⟩
  have honce : L = [] ∨ Once L b.length := by
    rcases once_of b.length with ⟨e, -⟩ | h
    · exact .inl (by rw [hL, e])
    · exact .inr (by rw [hL]; exact h)
  have hLl : L.length ≤ b.length := by rw [hL]; exact once_len _
  have hres : sortL b = L.map (numAt b) := by unfold sortL; rw [hL]
  rw [← hL] at HOr
  have Hres := Lib.hid hres
  obtain ⟨R, hR⟩ : ∃ R, R = NumsNew w (sortL b) := ⟨_, rfl⟩
  rw [← hR]
  have HR := Lib.hid hR
  have HOn := Lib.hid honce; have HS := Lib.hid hs
  obtain ⟨n, hn⟩ : ∃ n, n = b.length := ⟨_, rfl⟩
  have Hn := Lib.hid hn; have Hil := Lib.hid (ints_length L)
  obtain ⟨m, hm⟩ : ∃ m, m = L.length := ⟨_, rfl⟩
  have Hm := Lib.hid hm
  have hmn : m ≤ 1000 := by omega
  have hmn2 : m ≤ n := by omega
  rw [← hn] at HSd HOr ⊢
  obtain ⟨i0, hi0, hz0, hs0, hb0⟩ := info_parts info_num
  clear hs hb hL honce hLl hres hn hm hR
  go_enter Try.func43, Try.ntmps43
  go_wp2_with fail
  refine (HSd.out _).mono ?_
  rintro e w1 ⟨rfl, rfl⟩
  go_wp2_with fail
  refine (HOr.out _).mono ?_
  rintro e w2 ⟨A2, c2, rfl, hs2, hf2⟩
  rw [Hil.out, ← Hm.out] at hs2 ⊢
  have HS2 := Lib.hid hs2; have HF2 := Lib.hid hf2
  clear hs2 hf2 HSd HOr
  go_wp2_with (at_make; refine wpList_make_mine _ _ 29 3 i0 _ 8 _ _ m rfl rfl Try.underlying29 hi0 hz0 hs0 hb0 rfl rfl rfl (by omega) (by simp only [maxLen]; omega) ?_)
  intro w3 hO hF3 hlt3
  have hM : MineN w2 w3 (.slice (some ⟨w2.heap.size, 0, none⟩) m m) (List.replicate m 0) := by
    refine ⟨?_, hF3, fun k hk => ?_⟩
    · rw [List.map_replicate]; exact hO
    · have : w2.heap.size = k := by simpa [Value.ownBlock] using hk
      omega
  obtain ⟨g, hg⟩ : ∃ g, g = w2.heap.size := ⟨_, rfl⟩
  rw [← hg] at hM ⊢
  have HM := Lib.hid hM
  clear hO hF3 hlt3 hM hg hi0 hz0 hs0 hb0
  go_wp2_with fail
  go_loopw [15] (fun s15 wr => ∃ (i : Nat) (xs : List Int), i ≤ m ∧ s15 = .int .i64 (i : Int) ∧ MineN w2 wr (.slice (some ⟨g, 0, none⟩) m m) xs ∧ xs.length = m ∧ ∀ j, j < i → numAt xs j = numAt b (L.getD j 0)) (fun s15 _ => m - (intOf s15).toNat)
  case atStart => exact ⟨0, _, by omega, rfl, HM.out, by simp, fun j hj => absurd hj (by omega)⟩
  case round =>
    clear HM
    obtain ⟨i, xs, hi, rfl, hM, hPl⟩ := hrel
    by_cases hlt : i < m
    · have eg : decide (i < m) = true := by simpa using hlt
      have hiL : i < L.length := by have := Hm.out; omega
      have hon : Once L b.length := by
        rcases HOn.out with h | h
        · rw [h] at hiL; simp at hiL
        · exact h
      have hLb := hon.len
      have hib : i < b.length := by omega
      obtain ⟨la, rfl, cx⟩ := (HS2.out.fr0 hM.fr).num (k := i) (by have := Hil.out; omega)
      rw [ints_at hiL] at cx
      obtain ⟨K, hK⟩ : ∃ K, K = L.getD i 0 := ⟨_, rfl⟩
      have hKl := hon.lt i hib
      rw [← hK] at cx hKl
      obtain ⟨ba, rfl, cy⟩ := (HS.out.fr0 (HF2.out.trans hM.fr (by simp))).num hKl
      obtain ⟨v, hv⟩ : ∃ v, v = b.getD K 0 := ⟨_, rfl⟩
      rw [← hv] at cy
      have hset : (xs.set i v).length = m ∧ ∀ j, j < i + 1 → numAt (xs.set i v) j = numAt b (L.getD j 0) := by
        refine ⟨by rw [List.length_set]; exact hPl.1, fun j hj => ?_⟩
        rw [num_set (by rw [hPl.1]; exact hlt)]
        by_cases hji : j = i
        · subst hji
          rw [if_pos rfl, ← hK, hv]
          rfl
        · rw [if_neg hji]
          exact hPl.2 j (by omega)
      have hKn : K < n := by have := Hn.out; omega
      have hKm : K < m := by have := Hm.out; omega
      have hin : i < n := by have := Hn.out; omega
      obtain ⟨g', hg', -, hgl, cz, fz, -, hst⟩ := hM.cell (j := i) (by rw [hPl.1]; omega)
      have hge := Option.some.inj hg'
      injection hge with hge
      subst hge
      have HM3 := Lib.hid (hst v); have HP3 := Lib.hid hset
      clear hM hPl hset hK hv hKl hiL hon hLb hib hst hg'
      go_wp2_with fail
      exact ⟨⟨i + 1, _, by omega, by simp, HM3.out, HP3.out⟩, by simp [intOf]; omega⟩
    · have eg : decide (i < m) = false := by simpa using hlt
      have him : i = m := by omega
      have hfin : xs = sortL b := by
        rw [Hres.out]
        apply num_ext
        · rw [hPl.1, List.length_map]; exact Hm.out
        · intro j hj
          rw [hPl.1] at hj
          have hjL : j < L.length := by have := Hm.out; omega
          rw [hPl.2 j (by omega)]
          unfold numAt
          rw [List.getD_eq_getElem?_getD (l := L.map _), List.getElem?_map, List.getD_eq_getElem?_getD (l := L), List.getElem?_eq_getElem hjL]
          rfl
      have hxl : xs.length = m := hPl.1
      rw [hfin] at hM hxl
      have HM := Lib.hid hM; have Hxl := Lib.hid hxl
      clear hM hxl hPl hfin him
      go_wp2_with fail
      rw [HR.out]
      refine ⟨some ⟨g, 0, none⟩, m, by rw [Hxl.out]; rfl, ?_⟩
      rw [Hxl.out]
      exact HM.out.from_ HF2.out
set_option maxRecDepth 20000 in
set_option maxHeartbeats 4000000 in
theorem lunsort_any (A : Option Addr) (c : Nat) (b : List Int) (w : World) (hs : Src w (.slice A b.length c) (b.map I64)) (hb : b.length ≤ 1000) :
    Calls Try.prog 54 #[.slice A b.length c] w (NumsNew w (unsortL b)) := by
  have HSd := Lib.hid fun w => lside_any A b.length c w (by omega)
  have HOr := Lib.hid fun w => lorder_any (sideN b.length : Int) w
  obtain ⟨L, hL⟩ : ∃ L, L = orderL (sideN b.length) := ⟨_, rfl⟩
  have honce : L = [] ∨ Once L b.length := by
    rcases once_of b.length with ⟨e, -⟩ | h
    · exact .inl (by rw [hL, e])
    · exact .inr (by rw [hL]; exact h)
  have hLl : L.length ≤ b.length := by rw [hL]; exact once_len _
  have hres : unsortL b = (List.range L.length).map fun p => numAt b (L.idxOf p) := by unfold unsortL; rw [hL]
  rw [← hL] at HOr
  have Hres := Lib.hid hres
  obtain ⟨R, hR⟩ : ∃ R, R = NumsNew w (unsortL b) := ⟨_, rfl⟩
  rw [← hR]
  have HR := Lib.hid hR
  have HOn := Lib.hid honce; have HS := Lib.hid hs
  obtain ⟨n, hn⟩ : ∃ n, n = b.length := ⟨_, rfl⟩
  have Hn := Lib.hid hn; have Hil := Lib.hid (ints_length L)
  obtain ⟨m, hm⟩ : ∃ m, m = L.length := ⟨_, rfl⟩
  have Hm := Lib.hid hm
  have hmn : m ≤ 1000 := by omega
  have hmn2 : m ≤ n := by omega
  rw [← hn] at HSd HOr ⊢
  obtain ⟨i0, hi0, hz0, hs0, hb0⟩ := info_parts info_num
  clear hs hb hL honce hLl hres hn hm hR
  go_enter Try.func54, Try.ntmps54
  go_wp2_with fail
  refine (HSd.out _).mono ?_
  rintro e w1 ⟨rfl, rfl⟩
  go_wp2_with fail
  refine (HOr.out _).mono ?_
  rintro e w2 ⟨A2, c2, rfl, hs2, hf2⟩
  rw [Hil.out, ← Hm.out] at hs2 ⊢
  have HS2 := Lib.hid hs2; have HF2 := Lib.hid hf2
  clear hs2 hf2 HSd HOr
  go_wp2_with (at_make; refine wpList_make_mine _ _ 29 3 i0 _ 8 _ _ m rfl rfl Try.underlying29 hi0 hz0 hs0 hb0 rfl rfl rfl (by omega) (by simp only [maxLen]; omega) ?_)
  intro w3 hO hF3 hlt3
  have hM : MineN w2 w3 (.slice (some ⟨w2.heap.size, 0, none⟩) m m) (List.replicate m 0) := by
    refine ⟨?_, hF3, fun k hk => ?_⟩
    · rw [List.map_replicate]; exact hO
    · have : w2.heap.size = k := by simpa [Value.ownBlock] using hk
      omega
  obtain ⟨g, hg⟩ : ∃ g, g = w2.heap.size := ⟨_, rfl⟩
  rw [← hg] at hM ⊢
  have HM := Lib.hid hM
  clear hO hF3 hlt3 hM hg hi0 hz0 hs0 hb0
  go_wp2_with fail
  go_loopw [15] (fun s15 wr => ∃ (i : Nat) (xs : List Int), i ≤ m ∧ s15 = .int .i64 (i : Int) ∧ MineN w2 wr (.slice (some ⟨g, 0, none⟩) m m) xs ∧ Placed L b xs i) (fun s15 _ => m - (intOf s15).toNat)
  case atStart => exact ⟨0, _, by omega, rfl, HM.out, by simp [Hm.out], fun j hj => absurd hj (by omega)⟩
  case round =>
    clear HM
    obtain ⟨i, xs, hi, rfl, hM, hPl⟩ := hrel
    by_cases hlt : i < m
    · have eg : decide (i < m) = true := by simpa using hlt
      have hiL : i < L.length := by have := Hm.out; omega
      have hon : Once L b.length := by
        rcases HOn.out with h | h
        · rw [h] at hiL; simp at hiL
        · exact h
      have hLb := hon.len
      have hib : i < b.length := by omega
      obtain ⟨la, rfl, cx⟩ := (HS2.out.fr0 hM.fr).num (k := i) (by have := Hil.out; omega)
      rw [ints_at hiL] at cx
      have hset := hPl.set hon hib
      obtain ⟨K, hK⟩ : ∃ K, K = L.getD i 0 := ⟨_, rfl⟩
      have hKl := hon.lt i hib
      rw [← hK] at cx hKl hset
      obtain ⟨ba, rfl, cy⟩ := (HS.out.fr0 (HF2.out.trans hM.fr (by simp))).num hib
      obtain ⟨v, hv⟩ : ∃ v, v = b.getD i 0 := ⟨_, rfl⟩
      rw [show numAt b i = v by rw [hv]; rfl] at hset
      rw [← hv] at cy
      have hKn : K < n := by have := Hn.out; omega
      have hKm : K < m := by have := Hm.out; omega
      have hin : i < n := by have := Hn.out; omega
      obtain ⟨g', hg', -, hgl, cz, fz, -, hst⟩ := hM.cell (j := K) (by rw [hPl.1]; omega)
      have hge := Option.some.inj hg'
      injection hge with hge
      subst hge
      have HM3 := Lib.hid (hst v); have HP3 := Lib.hid hset
      clear hM hPl hset hK hv hKl hiL hon hLb hib hst hg'
      go_wp2_with fail
      exact ⟨⟨i + 1, _, by omega, by simp, HM3.out, HP3.out⟩, by simp [intOf]; omega⟩
    · have eg : decide (i < m) = false := by simpa using hlt
      have him : i = m := by omega
      have hfin : xs = unsortL b := by
        rw [Hres.out]
        rcases HOn.out with h | h
        · have := hPl.1
          rw [h] at this ⊢
          simp at this ⊢
          exact this
        · have hh : Placed L b xs b.length := by rw [← h.len, ← Hm.out, ← him]; exact hPl
          exact hh.full h
      have hxl : xs.length = m := by rw [hPl.1]; exact Hm.out.symm
      rw [hfin] at hM hxl
      have HM := Lib.hid hM; have Hxl := Lib.hid hxl
      clear hM hxl hPl hfin him
      go_wp2_with fail
      rw [HR.out]
      refine ⟨some ⟨g, 0, none⟩, m, by rw [Hxl.out]; rfl, ?_⟩
      rw [Hxl.out]
      exact HM.out.from_ HF2.out
end Go.Proofs.Ytendcmdpmohacaa

/-
  What blocks of levels lean on, of the landed code: the book, Sort, Unsort.
-/
namespace Go.Proofs.Ytendcmdpmohacaa
open Go.RowKit

theorem same_sameC (B C : Chs) : sameB B C = sameC B C := rfl
end Go.Proofs.Ytendcmdpmohacaa

/-
  Contracts of the landed quant: side, isUpTo, beyond, slices.IndexFunc, slices.ContainsFunc, isBlock. Conditions: rows of bounded length, bounds within 2^40.
-/
namespace Go.Proofs.Ytendcmdpmohacaa
open Go.RowKit

def sideI (n : Int) : Int := if n = 16 then 4 else if n = 64 then 8 else 0
theorem sideI_nat (n : Nat) : sideI (n : Int) = (sideN n : Int) := by
  unfold sideI sideN
  by_cases h1 : n = 16
  · subst h1; rfl
  · by_cases h2 : n = 64
    · subst h2; rfl
    · rw [if_neg (by omega), if_neg (by omega), if_neg h1, if_neg h2]; rfl
theorem qside_any (n : Int) (w : World) :
    Calls Try.prog 51 #[.int .i64 n] w fun e w' => e = .returned (.int .i64 (sideI n)) ∧ w' = w := by
  by_cases h1 : n = 16
  · subst h1
    go_enter Try.func51, Try.ntmps51
    go_wp2_with fail
    go_ret
    exact ⟨rfl, rfl⟩
  · by_cases h2 : n = 64
    · subst h2
      go_enter Try.func51, Try.ntmps51
      go_wp2_with fail
      go_ret
      exact ⟨rfl, rfl⟩
    · have e1 : (n == 16) = false := by simpa using h1
      have e2 : (n == 64) = false := by simpa using h2
      have hs : sideI n = 0 := by unfold sideI; rw [if_neg h1, if_neg h2]
      rw [hs]
      clear h1 h2 hs
      go_enter Try.func51, Try.ntmps51
      go_wp2_with fail
      go_ret
      exact ⟨rfl, rfl⟩

def isUp (v m : Int) : Bool := decide (0 ≤ v) && decide (v ≤ m)
theorem qupto_any (v m : Int) (w : World) :
    Calls Try.prog 35 #[.int .i64 v, .int .i64 m] w fun e w' => e = .returned (.bool (isUp v m)) ∧ w' = w := by
  by_cases h1 : 0 ≤ v
  · have e1 : decide (0 ≤ v) = true := by simpa using h1
    unfold isUp
    rw [e1]
    clear h1
    go_enter Try.func35, Try.ntmps35
    go_wp2_with fail
    go_ret
    exact ⟨by simp, rfl⟩
  · have e1 : decide (0 ≤ v) = false := by simpa using h1
    unfold isUp
    rw [e1]
    clear h1
    go_enter Try.func35, Try.ntmps35
    go_wp2_with fail
    go_ret
    exact ⟨by simp, rfl⟩

theorem up_bnd {v m : Int} (h : isUp v m = true) : 0 ≤ v ∧ v ≤ m := by unfold isUp at h; simp at h; exact h
/-- The closure that tells what is beyond. -/
def beyondOf (g : Nat) : Value := .func (.func 60) #[] #[.pointer (some ⟨g, 0, none⟩)]
theorem qbeyond_any (m : Int) (w : World) :
    Calls Try.prog 41 #[.int .i64 m] w fun e w' => ∃ g, e = .returned (beyondOf g) ∧ Blk w' g 3 #[.int .i64 m] ∧ Fr [] w w' := by
  have hB := Blk.new w 3 #[.int .i64 m]
  have HB := Lib.hid hB
  clear hB
  go_enter Try.func41, Try.ntmps41
  go_wp2_with fail
  go_ret
  exact ⟨w.heap.size, rfl, HB.out, (Fr.refl _ _).alloc _⟩
def isOut (v m : Int) : Bool := decide (v < -m) || decide (m < v)
theorem qbeyond1_any (g : Nat) (m v : Int) (w : World) (hb : Blk w g 3 #[.int .i64 m]) (h1 : 0 ≤ m) (h2 : m ≤ 1099511627776) :
    Calls Try.prog 60 #[.int .i64 v, .pointer (some ⟨g, 0, none⟩)] w fun e w' => e = .returned (.bool (isOut v m)) ∧ w' = w := by
  have c0 := hb.cell 0
  simp at c0
  have wm : IntKind.i64.wrap (-m) = -m := IntWalk.i64_in _ (by omega)
  clear hb
  by_cases h3 : v < -m
  · have e1 : decide (v < -m) = true := by simpa using h3
    unfold isOut
    rw [e1]
    go_enter Try.func60, Try.ntmps60
    go_wp2_with fail
    go_ret
    exact ⟨by simp, rfl⟩
  · have e1 : decide (v < -m) = false := by simpa using h3
    unfold isOut
    rw [e1]
    go_enter Try.func60, Try.ntmps60
    go_wp2_with fail
    go_ret
    exact ⟨by simp, rfl⟩

set_option maxRecDepth 20000 in
set_option maxHeartbeats 4000000 in
theorem qindex_any (A : Option Addr) (c : Nat) (b : List Int) (g : Nat) (m : Int) (w : World) (hs : Src w (.slice A b.length c) (b.map I64)) (hb : b.length ≤ 1000000) (hg : Blk w g 3 #[.int .i64 m]) (hm : 0 ≤ m) (hm2 : m ≤ 1099511627776) :
    Calls Try.prog 59 #[.slice A b.length c, beyondOf g] w fun e w' => (∃ r : Int, e = .returned (.int .i64 r) ∧ decide (0 ≤ r) = !(withinB b m)) ∧ w' = w := by
  have HM := Lib.hid fun v => qbeyond1_any g m v w hg hm hm2
  obtain ⟨R, hR⟩ : ∃ R, R = withinB b m := ⟨_, rfl⟩
  have HR := Lib.hid hR
  rw [← hR]
  obtain ⟨n, hn⟩ : ∃ n, n = b.length := ⟨_, rfl⟩
  have HS := Lib.hid hs; have Hn := Lib.hid hn
  rw [← hn] at hb ⊢
  clear hs hg hR hn
  unfold beyondOf
  go_enter Try.func59, Try.ntmps59
  go_wp2_with fail
  go_loopw [8] (fun s8 wr => ∃ i : Nat, i ≤ n ∧ s8 = .int .i64 (i : Int) ∧ wr = w ∧ ∀ j, j < i → -m ≤ numAt b j ∧ numAt b j ≤ m) (fun s8 _ => n - (intOf s8).toNat)
  case atStart => exact ⟨0, by omega, rfl, rfl, by omega⟩
  case round =>
    obtain ⟨i, hi, rfl, rfl, hall⟩ := hrel
    have Hall := Lib.hid hall
    clear hall
    by_cases hlt : i < n
    · obtain ⟨ad, rfl, cx⟩ := HS.out.num (k := i) (by have := Hn.out; omega)
      obtain ⟨v, hv⟩ : ∃ v, v = b.getD i 0 := ⟨_, rfl⟩
      rw [← hv] at cx
      have Hv := Lib.hid hv
      have hfalse : isOut v m = true → withinB b m = false := by
        intro h
        cases hw : withinB b m
        · rfl
        · exfalso
          have := within_at hw (j := i) (by have := Hn.out; omega)
          unfold numAt at this
          rw [← hv] at this
          unfold isOut at h
          simp at h
          omega
      have Hfalse := Lib.hid hfalse
      have HMv := Lib.hid (HM.out v)
      clear hv hfalse
      have eg : decide (i < n) = true := by simpa using hlt
      obtain ⟨t, ht⟩ : ∃ t, t = isOut v m := ⟨_, rfl⟩
      rw [← ht] at HMv Hfalse
      have Ht := Lib.hid ht
      clear ht
      go_wp2_with fail
      refine HMv.out.mono ?_
      rintro e w2 ⟨rfl, rfl⟩
      cases t with
      | false =>
        go_wp2_with fail
        refine ⟨⟨i + 1, by omega, by simp, trivial, fun j hj => ?_⟩, by simp [intOf]; omega⟩
        by_cases hji : j = i
        · subst hji
          unfold numAt
          rw [← Hv.out]
          have := Ht.out
          unfold isOut at this
          simp at this
          omega
        · exact Hall.out j (by omega)
      | true =>
        have Hf := Lib.hid (Hfalse.out rfl)
        go_wp2_with fail
        go_ret
        exact ⟨⟨(i : Int), rfl, by rw [HR.out, Hf.out]; simp⟩, rfl⟩
    · have eg : decide (i < n) = false := by simpa using hlt
      have hin : withinB b m = true := all_take b i m Hall.out (by have := Hn.out; omega)
      have Hin := Lib.hid hin
      clear hin
      go_wp2_with fail
      go_ret
      exact ⟨⟨-1, rfl, by rw [HR.out, Hin.out]; rfl⟩, rfl⟩

theorem qcontains_any (A : Option Addr) (c : Nat) (b : List Int) (g : Nat) (m : Int) (w : World) (hs : Src w (.slice A b.length c) (b.map I64)) (hb : b.length ≤ 1000000) (hg : Blk w g 3 #[.int .i64 m]) (hm : 0 ≤ m) (hm2 : m ≤ 1099511627776) :
    Calls Try.prog 40 #[.slice A b.length c, beyondOf g] w fun e w' => e = .returned (.bool (!(withinB b m))) ∧ w' = w := by
  have HI := Lib.hid (qindex_any A c b g m w hs hb hg hm hm2)
  obtain ⟨R, hR⟩ : ∃ R, R = withinB b m := ⟨_, rfl⟩
  rw [← hR] at HI ⊢
  obtain ⟨n, hn⟩ : ∃ n, n = b.length := ⟨_, rfl⟩
  rw [← hn] at HI ⊢
  clear hs hb hg hm hm2 hR hn
  obtain ⟨F, hF⟩ : ∃ F, F = beyondOf g := ⟨_, rfl⟩
  rw [← hF] at HI ⊢
  clear hF
  go_enter Try.func40, Try.ntmps40
  go_wp2_with fail
  refine HI.out.mono ?_
  rintro e w1 ⟨⟨r, rfl, _hr⟩, rfl⟩
  go_wp2_with fail
  go_ret
  exact ⟨by simp, rfl⟩
end Go.Proofs.Ytendcmdpmohacaa

/-
  Contracts of the landed quant: isBlock, used. Conditions: rows of bounded length, bounds within 2^40.
-/
namespace Go.Proofs.Ytendcmdpmohacaa
open Go.RowKit

theorem isBlk_out (b : List Int) (m : Int) (h : sideN b.length = 0) : isBlk b m = false := by unfold isBlk; rw [h]; rfl
theorem isBlk_in (b : List Int) (m : Int) (h : sideN b.length ≠ 0) : isBlk b m = withinB b m := by
  unfold isBlk
  have : (sideN b.length == 0) = false := by simpa using h
  rw [this]
  rfl
set_option maxRecDepth 20000 in
theorem qblock_any (A : Option Addr) (c : Nat) (b : List Int) (m : Int) (w : World) (hs : Src w (.slice A b.length c) (b.map I64)) (hb : b.length ≤ 1000000) (hm : 0 ≤ m) (hm2 : m ≤ 1099511627776) :
    Calls Try.prog 42 #[.slice A b.length c, .int .i64 m] w fun e w' => e = .returned (.bool (isBlk b m)) ∧ Fr [] w w' := by
  have HSd := Lib.hid (qside_any (b.length : Int) w)
  rw [sideI_nat] at HSd
  have HBe := Lib.hid (qbeyond_any m w)
  have HCo := Lib.hid fun g w1 (hg : Blk w1 g 3 #[.int .i64 m]) (hf : Fr [] w w1) => qcontains_any A c b g m w1 (hs.fr0 hf) hb hg hm hm2
  obtain ⟨R, hR⟩ : ∃ R, R = isBlk b m := ⟨_, rfl⟩
  rw [← hR]
  have HR := Lib.hid hR
  by_cases h0 : sideN b.length = 0
  · have Hr := Lib.hid (isBlk_out b m h0)
    rw [h0] at HSd
    obtain ⟨n, hn⟩ : ∃ n, n = b.length := ⟨_, rfl⟩
    rw [← hn] at HSd ⊢
    clear hs hb hR hn h0 HCo HBe
    go_enter Try.func42, Try.ntmps42
    go_wp2_with fail
    refine HSd.out.mono ?_
    rintro e w1 ⟨rfl, rfl⟩
    go_wp2_with fail
    go_ret
    exact ⟨by rw [HR.out, Hr.out]; rfl, Fr.refl _ _⟩
  · have Hr := Lib.hid (isBlk_in b m h0)
    obtain ⟨P, hP⟩ : ∃ P, P = sideN b.length := ⟨_, rfl⟩
    rw [← hP] at HSd h0
    have t1 : ((P : Int) != 0) = true := by simp; omega
    have t2 : ((P : Int) == 0) = false := by simp; omega
    obtain ⟨n, hn⟩ : ∃ n, n = b.length := ⟨_, rfl⟩
    rw [← hn] at HSd HCo ⊢
    clear hs hb hR hn h0 hP
    go_enter Try.func42, Try.ntmps42
    go_wp2_with fail
    refine HSd.out.mono ?_
    rintro e w1 ⟨rfl, rfl⟩
    clear HSd
    go_wp2_with fail
    refine HBe.out.mono ?_
    rintro e w2 ⟨g, rfl, hg, hf⟩
    have HC := Lib.hid (HCo.out g w2 hg hf)
    have Hf := Lib.hid hf
    clear hg hf HBe HCo
    obtain ⟨F, hF⟩ : ∃ F, F = beyondOf g := ⟨_, rfl⟩
    rw [← hF] at HC ⊢
    clear hF
    go_wp2_with fail
    refine HC.out.mono ?_
    rintro e w3 ⟨rfl, rfl⟩
    go_wp2_with fail
    go_ret
    exact ⟨by rw [HR.out, Hr.out]; simp, Hf.out⟩

/-- Up to where there are only zeros behind. -/
theorem upTo_back {l : List Int} {k : Nat} (hk : k < l.length) (h : upTo (l.take (k + 1)) = upTo l) (h0 : numAt l k = 0) : upTo (l.take k) = upTo l := by
  rw [← h, upTo_take_succ hk, if_pos h0]
theorem upTo_there {l : List Int} {k : Nat} (hk : k < l.length) (h : upTo (l.take (k + 1)) = upTo l) (h0 : numAt l k ≠ 0) : upTo l = k + 1 := by
  rw [← h, upTo_take_succ hk, if_neg h0]
set_option maxRecDepth 20000 in
theorem qused_any (A : Option Addr) (c : Nat) (l : List Int) (w : World) (hs : Src w (.slice A l.length c) (l.map I64)) (hb : l.length ≤ 1000000) :
    Calls Try.prog 44 #[.slice A l.length c] w fun e w' => e = .returned (.int .i64 (upTo l : Int)) ∧ w' = w := by
  obtain ⟨U, hU⟩ : ∃ U, U = upTo l := ⟨_, rfl⟩
  rw [← hU]
  have hst : upTo (l.take l.length) = U := by rw [List.take_length, hU]
  have HU := Lib.hid hU
  obtain ⟨n, hn⟩ : ∃ n, n = l.length := ⟨_, rfl⟩
  rw [← hn] at hst hb hs ⊢
  have HS := Lib.hid hs; have Hn := Lib.hid hn; have Hst := Lib.hid hst
  clear hs hn hU hst
  go_enter Try.func44, Try.ntmps44
  go_wp2_with fail
  go_loopw [3] (fun s3 wr => ∃ i : Nat, i ≤ n ∧ s3 = .int .i64 (i : Int) ∧ wr = w ∧ upTo (l.take i) = U) (fun s3 _ => (intOf s3).toNat)
  case atStart => exact ⟨n, by omega, rfl, rfl, Hst.out⟩
  case round =>
    obtain ⟨i, hi, rfl, rfl, hup⟩ := hrel
    have Hup := Lib.hid hup
    clear hup Hst
    by_cases h0 : 0 < i
    · obtain ⟨k, rfl⟩ : ∃ k, i = k + 1 := ⟨i - 1, by omega⟩
      have hkl : k < l.length := by have := Hn.out; omega
      obtain ⟨ad, rfl, cx⟩ := HS.out.num hkl
      obtain ⟨v, hv⟩ : ∃ v, v = l.getD k 0 := ⟨_, rfl⟩
      rw [← hv] at cx
      have Hv := Lib.hid hv
      have e1 : ((k + 1 : Nat) : Int) - 1 = (k : Int) := by omega
      have wk : IntKind.i64.wrap (k : Int) = (k : Int) := IntWalk.i64_in _ (by omega)
      have hkn : k < n := by omega
      have eg : decide (0 < ((k + 1 : Nat) : Int)) = true := decide_eq_true (by omega)
      obtain ⟨K, hK⟩ : ∃ K : Nat, K = k + 1 := ⟨_, rfl⟩
      rw [← hK] at e1 eg ⊢
      have HK := Lib.hid hK
      have hK0 : 0 < K := by omega
      by_cases hv0 : v = 0
      · have e2 : (v == 0) = true := by simpa using hv0
        clear hkl hv hv0 hK
        go_wp2_with fail
        refine ⟨⟨k, by omega, rfl, trivial, ?_⟩, by simp [intOf]; have := HK.out; omega⟩
        have hh := Hup.out
        rw [HU.out] at hh ⊢
        exact upTo_back (by have := Hn.out; omega) hh (by unfold numAt; rw [← Hv.out]; have := e2; simpa using this)
      · have e2 : (v == 0) = false := by simpa using hv0
        have hUK : U = K := by
          have hh := Hup.out
          rw [HU.out] at hh
          rw [HU.out, hK]
          exact upTo_there hkl hh (by unfold numAt; rw [← hv]; exact hv0)
        have HUK := Lib.hid hUK
        clear hkl hv hv0 hK hUK
        go_wp2_with fail
        go_ret
        exact ⟨by rw [HUK.out]; rfl, rfl⟩
    · have hi0 : i = 0 := by omega
      subst hi0
      have hU0 : U = 0 := by rw [← Hup.out]; rfl
      have HU0 := Lib.hid hU0
      clear hU0 h0
      go_wp2_with fail
      go_ret
      exact ⟨by rw [HU0.out]; rfl, rfl⟩
end Go.Proofs.Ytendcmdpmohacaa

/-
  Contracts of the landed quant: step, Step, Level, Value. Conditions: numbers and steps within 2^40.
-/
namespace Go.Proofs.Ytendcmdpmohacaa
open Go.RowKit

set_option maxRecDepth 20000 in
set_option maxHeartbeats 4000000 in
theorem qstep_any (Q X Y : Nat) (w : World) (hQ : Q ≤ 31) (hX : X ≤ 7) (hY : Y ≤ 7) :
    Calls Try.prog 36 #[.int .i64 (Q : Int), .int .i64 (X : Int), .int .i64 (Y : Int)] w fun e w' => e = .returned (.int .i64 (stepAt Q X Y : Int)) ∧ w' = w := by
  obtain ⟨R, hR⟩ : ∃ R, R = stepAt Q X Y := ⟨_, rfl⟩
  rw [← hR]
  unfold stepAt stepBase at hR
  obtain ⟨D, hD⟩ : ∃ D, D = Q / 4 := ⟨_, rfl⟩
  obtain ⟨B, hB⟩ : ∃ B, B = Q % 4 := ⟨_, rfl⟩
  rw [← hD, ← hB] at hR
  have eD : (Q : Int) / 4 = (D : Int) := by omega
  have eB : (Q : Int) % 4 = (B : Int) := by omega
  have hD7 : D ≤ 7 := by omega
  have hB7 : B ≤ 3 := by omega
  obtain ⟨S, hS⟩ : ∃ S, S = (4 + B) * 2 ^ D := ⟨_, rfl⟩
  have hSl : S ≤ 7 * 128 := by
    rw [hS]
    exact Nat.mul_le_mul (by omega) (Nat.pow_le_pow_right (n := 2) (j := 7) (by omega) hD7)
  obtain ⟨S4, hS4⟩ : ∃ S4, S4 = S / 4 := ⟨_, rfl⟩
  obtain ⟨T, hT⟩ : ∃ T, T = S4 * (4 + X + Y) := ⟨_, rfl⟩
  have hTl : T ≤ 224 * 18 := by
    rw [hT]
    exact Nat.mul_le_mul (by omega) (by omega)
  rw [← hS, ← hS4, ← hT] at hR
  have eS : wrap64 ((4 + (B : Int)) * 2 ^ D) = (S : Int) := by
    have h1 : (4 + (B : Int)) * 2 ^ D = (S : Int) := by rw [hS]; simp
    rw [h1]
    exact IntWalk.wrap64_in _ (by omega)
  have eS4 : (S : Int) / 4 = (S4 : Int) := by omega
  have eT : wrap64 ((S4 : Int) * (4 + (X : Int) + (Y : Int))) = (T : Int) := by
    have h1 : (S4 : Int) * (4 + (X : Int) + (Y : Int)) = (T : Int) := by rw [hT]; simp
    rw [h1]
    exact IntWalk.wrap64_in _ (by omega)
  have hR2 : (T : Int) / 4 = (R : Int) := by rw [hR]; simp
  have HR := Lib.hid hR2; have HS := Lib.hid eS; have HS4 := Lib.hid eS4; have HT := Lib.hid eT
  clear hR hD hB hS hS4 hT eS eS4 eT hR2
  go_enter Try.func36, Try.ntmps36
  go_wp2_with fail
  rw [HS.out, HS4.out, HT.out, HR.out]
  go_ret
  exact ⟨rfl, rfl⟩

theorem stepR_good {Q X Y : Nat} (hQ : Q ≤ 31) (hX : X ≤ 7) (hY : Y ≤ 7) : stepR (Q : Int) (X : Int) (Y : Int) = ((stepAt Q X Y : Int), 0) := by
  unfold stepR quantOk
  rw [if_pos]
  · simp only [Int.toNat_natCast]
  · simp only [Bool.and_eq_true, decide_eq_true_eq]
    omega
theorem up_true {v m : Int} (h : isUp v m = true) : 0 ≤ v ∧ v ≤ m := by unfold isUp at h; simp at h; exact h
theorem up_false {v m : Int} (h : isUp v m = false) : ¬ (0 ≤ v ∧ v ≤ m) := by
  intro k
  have : isUp v m = true := by unfold isUp; simp; exact k
  rw [h] at this
  cases this
set_option maxRecDepth 20000 in
theorem qStep_any (q x y : Int) (w : World) :
    Calls Try.prog 9 #[.int .i64 q, .int .i64 x, .int .i64 y] w fun e w' => e = .returned (.tuple #[.int .i64 (stepR q x y).1, .int .i64 (stepR q x y).2]) ∧ w' = w := by
  have H1 := Lib.hid (qupto_any q 31 w); have H2 := Lib.hid (qupto_any x 7 w); have H3 := Lib.hid (qupto_any y 7 w)
  obtain ⟨R, hR⟩ : ∃ R, R = stepR q x y := ⟨_, rfl⟩
  rw [← hR]
  cases h1 : isUp q 31
  · have hr := stepR_bad (q := q) (x := x) (y := y) (fun k => up_false h1 k.1)
    rw [h1] at H1
    rw [← hR] at hr
    have HR := Lib.hid hr
    clear hR h1 hr H2 H3
    go_enter Try.func9, Try.ntmps9
    go_wp2_with fail
    refine H1.out.mono ?_
    rintro e w1 ⟨rfl, rfl⟩
    go_wp2_with fail
    go_ret2
    exact ⟨by rw [HR.out]; rfl, rfl⟩
  · rw [h1] at H1
    cases h2 : isUp x 7
    · have hr := stepR_bad (q := q) (x := x) (y := y) (fun k => up_false h2 k.2.1)
      rw [h2] at H2
      rw [← hR] at hr
      have HR := Lib.hid hr
      clear hR h1 h2 hr H3
      go_enter Try.func9, Try.ntmps9
      go_wp2_with fail
      refine H1.out.mono ?_
      rintro e w1 ⟨rfl, rfl⟩
      go_wp2_with fail
      refine H2.out.mono ?_
      rintro e w1 ⟨rfl, rfl⟩
      go_wp2_with fail
      go_ret2
      exact ⟨by rw [HR.out]; rfl, rfl⟩
    · rw [h2] at H2
      cases h3 : isUp y 7
      · have hr := stepR_bad (q := q) (x := x) (y := y) (fun k => up_false h3 k.2.2)
        rw [h3] at H3
        rw [← hR] at hr
        have HR := Lib.hid hr
        clear hR h1 h2 h3 hr
        go_enter Try.func9, Try.ntmps9
        go_wp2_with fail
        refine H1.out.mono ?_
        rintro e w1 ⟨rfl, rfl⟩
        go_wp2_with fail
        refine H2.out.mono ?_
        rintro e w1 ⟨rfl, rfl⟩
        go_wp2_with fail
        refine H3.out.mono ?_
        rintro e w1 ⟨rfl, rfl⟩
        go_wp2_with fail
        go_ret2
        exact ⟨by rw [HR.out]; rfl, rfl⟩
      · rw [h3] at H3
        obtain ⟨q1, q2⟩ := up_true h1
        obtain ⟨x1, x2⟩ := up_true h2
        obtain ⟨y1, y2⟩ := up_true h3
        obtain ⟨Q, rfl⟩ : ∃ Q : Nat, q = (Q : Int) := ⟨q.toNat, by omega⟩
        obtain ⟨X, rfl⟩ : ∃ X : Nat, x = (X : Int) := ⟨x.toNat, by omega⟩
        obtain ⟨Y, rfl⟩ : ∃ Y : Nat, y = (Y : Int) := ⟨y.toNat, by omega⟩
        have hQ : Q ≤ 31 := by omega
        have hX : X ≤ 7 := by omega
        have hY : Y ≤ 7 := by omega
        have HS := Lib.hid fun W => qstep_any Q X Y W hQ hX hY
        rw [stepR_good hQ hX hY] at hR
        have HR := Lib.hid hR
        clear hR h1 h2 h3 q1 q2 x1 x2 y1 y2
        go_enter Try.func9, Try.ntmps9
        go_wp2_with fail
        refine H1.out.mono ?_
        rintro e w1 ⟨rfl, rfl⟩
        go_wp2_with fail
        refine H2.out.mono ?_
        rintro e w1 ⟨rfl, rfl⟩
        go_wp2_with fail
        refine H3.out.mono ?_
        rintro e w1 ⟨rfl, rfl⟩
        go_wp2_with fail
        refine (HS.out _).mono ?_
        rintro e w1 ⟨rfl, rfl⟩
        go_wp2_with fail
        go_ret2
        exact ⟨by rw [HR.out]; rfl, rfl⟩

theorem qValue_any (l s : Int) (w : World) :
    Calls Try.prog 14 #[.int .i64 l, .int .i64 s] w fun e w' => e = .returned (.int .i64 (valueR l s)) ∧ w' = w := by
  obtain ⟨R, hR⟩ : ∃ R, R = valueR l s := ⟨_, rfl⟩
  rw [← hR]
  unfold valueR at hR
  by_cases hs : s < 1
  · have t1 : decide (s < 1) = true := decide_eq_true hs
    rw [if_pos hs] at hR
    rw [hR]
    clear hR hs
    go_enter Try.func14, Try.ntmps14
    go_wp2_with fail
    go_ret
    exact ⟨rfl, rfl⟩
  · have t1 : decide (s < 1) = false := decide_eq_false hs
    rw [if_neg hs] at hR
    have HR := Lib.hid hR
    clear hR hs
    go_enter Try.func14, Try.ntmps14
    go_wp2_with fail
    go_ret
    exact ⟨by rw [HR.out, IntWalk.i64_left]; rfl, rfl⟩

set_option maxRecDepth 20000 in
theorem qLevel_any (v s : Int) (w : World) (h1 : -2199023255552 ≤ v) (h2 : v ≤ 2199023255552) (h3 : s ≤ 1099511627776) :
    Calls Try.prog 12 #[.int .i64 v, .int .i64 s] w fun e w' => e = .returned (.int .i64 (levelOf v s)) ∧ w' = w := by
  obtain ⟨R, hR⟩ : ∃ R, R = levelOf v s := ⟨_, rfl⟩
  rw [← hR]
  unfold levelOf at hR
  by_cases hs : s < 1
  · have t1 : decide (s < 1) = true := decide_eq_true hs
    rw [if_pos hs] at hR
    rw [hR]
    clear hR hs
    go_enter Try.func12, Try.ntmps12
    go_wp2_with fail
    go_ret
    exact ⟨rfl, rfl⟩
  · have t1 : decide (s < 1) = false := decide_eq_false hs
    rw [if_neg hs] at hR
    obtain ⟨S, rfl⟩ : ∃ S : Nat, s = (S : Int) := ⟨s.toNat, by omega⟩
    obtain ⟨T, hT⟩ : ∃ T, T = S / 3 := ⟨_, rfl⟩
    have eT : (S : Int) / 3 = (T : Int) := by rw [hT]; simp
    have hTl : T ≤ 1099511627776 := by omega
    have hS0 : ¬ S = 0 := by omega
    rw [eT] at hR
    by_cases hv : v < 0
    · have t2 : decide (v < 0) = true := decide_eq_true hv
      rw [if_pos hv] at hR
      obtain ⟨V, hV⟩ : ∃ V : Nat, (V : Int) = -v := ⟨(-v).toNat, by omega⟩
      have eV : -v = (V : Int) := hV.symm
      have wV : IntKind.i64.wrap (V : Int) = (V : Int) := IntWalk.i64_in _ (by omega)
      obtain ⟨U, hU⟩ : ∃ U, U = V + T := ⟨_, rfl⟩
      have eU : (V : Int) + (T : Int) = (U : Int) := by rw [hU]; simp
      obtain ⟨Z, hZ⟩ : ∃ Z, Z = U / S := ⟨_, rfl⟩
      have eZ : (U : Int) / (S : Int) = (Z : Int) := by rw [hZ]; simp
      have hZl : Z ≤ U := by rw [hZ]; exact Nat.div_le_self _ _
      have wZ : IntKind.i64.wrap (Z : Int) = (Z : Int) := IntWalk.i64_in _ (by omega)
      have wnZ : IntKind.i64.wrap (-(Z : Int)) = -(Z : Int) := IntWalk.i64_in _ (by omega)
      rw [eV, eU, eZ] at hR
      have HR := Lib.hid hR
      clear hR hV hU hT hs hZ
      go_enter Try.func12, Try.ntmps12
      go_wp2_with fail
      go_ret
      exact ⟨by rw [HR.out]; rfl, rfl⟩
    · have t2 : decide (v < 0) = false := decide_eq_false hv
      rw [if_neg hv] at hR
      obtain ⟨V, rfl⟩ : ∃ V : Nat, v = (V : Int) := ⟨v.toNat, by omega⟩
      obtain ⟨U, hU⟩ : ∃ U, U = V + T := ⟨_, rfl⟩
      have eU : (V : Int) + (T : Int) = (U : Int) := by rw [hU]; simp
      have wU : IntKind.i64.wrap (U : Int) = (U : Int) := IntWalk.i64_in _ (by omega)
      obtain ⟨Z, hZ⟩ : ∃ Z, Z = U / S := ⟨_, rfl⟩
      have eZ : (U : Int) / (S : Int) = (Z : Int) := by rw [hZ]; simp
      have hZl : Z ≤ U := by rw [hZ]; exact Nat.div_le_self _ _
      have wZ : IntKind.i64.wrap (Z : Int) = (Z : Int) := IntWalk.i64_in _ (by omega)
      rw [eU, eZ] at hR
      have HR := Lib.hid hR
      clear hR hU hT hs hZ
      go_enter Try.func12, Try.ntmps12
      go_wp2_with fail
      go_ret
      exact ⟨by rw [HR.out]; rfl, rfl⟩
end Go.Proofs.Ytendcmdpmohacaa

/-
  Contracts of the landed quant: each. Conditions: blocks of bounded length.
-/
namespace Go.Proofs.Ytendcmdpmohacaa
open Go.RowKit

theorem enters_f {F : FuncId} {fn : Func} {c : Code} (hf : Try.prog.funcs[F]? = some fn) (hname : (fn.name == "runtime.NumGoroutine") = false) (hb : fn.body = some c) : ∀ (args : Array Value) (w : World), (callFunc F args).run Try.prog w = .ok (.enter F args) w := by
  intro args w
  have h1 : fn.name ≠ "runtime.NumGoroutine" := by simpa using hname
  simp [callFunc, hf, h1, hb, mark]
/-- What a function that changes a number by a step does. -/
structure NumFn (F : FuncId) (fn : Int → Int → Int) : Prop where
  enters : ∀ (args : Array Value) (w : World), (callFunc F args).run Try.prog w = .ok (.enter F args) w
  run : ∀ (v s : Int) (w : World), -67108864 ≤ v → v ≤ 67108864 → 1 ≤ s → s ≤ 1008 → Calls Try.prog F #[.int .i64 v, .int .i64 s] w fun e w' => e = .returned (.int .i64 (fn v s)) ∧ w' = w
theorem numLevel : NumFn 12 levelOf := ⟨enters_f (F := 12) Try.func12 rfl rfl, fun v s w h1 h2 h3 h4 => qLevel_any v s w (by omega) (by omega) (by omega)⟩
theorem numValue : NumFn 14 (fun v s => v * s) := ⟨enters_f (F := 14) Try.func14 rfl rfl, fun v s w h1 h2 h3 h4 => by
  have hm := mul_le (v := v) (s := s) (m := 67108864) (t := 1008) h1 h2 (by omega) h4 (by omega)
  have hv : valueR v s = v * s := by
    unfold valueR
    rw [if_neg (by omega)]
    exact IntWalk.i64_in _ (by omega)
  have := qValue_any v s w
  rwa [hv] at this⟩

/-- A block of which all numbers are changed. -/
def eachN (fn : Int → Int → Int) (b : List Int) (q : Nat) : List Int := (List.range b.length).map fun i => fn (numAt b i) (stepsAt q b.length i)
def eachR (fn : Int → Int → Int) (b : List Int) (q : Int) : List Int × Int := if rightQ b q 67108864 then (eachN fn b q.toNat, 0) else ([], 1)
/-- Changed up to a place. -/
def Turned (fn : Int → Int → Int) (b : List Int) (q : Nat) (xs : List Int) (i : Nat) : Prop := xs.length = b.length ∧ ∀ j, j < i → j < b.length → numAt xs j = fn (numAt b j) (stepsAt q b.length j)
theorem Turned.full {fn : Int → Int → Int} {b xs : List Int} {q : Nat} (h : Turned fn b q xs b.length) : xs = eachN fn b q := by
  apply num_ext
  · rw [h.1]; simp [eachN]
  · intro j hj
    rw [h.1] at hj
    rw [h.2 j hj hj]
    unfold eachN
    exact (numAt_map (f := fun i => fn (numAt b i) (stepsAt q b.length i)) hj).symm
theorem Turned.set {fn : Int → Int → Int} {b xs : List Int} {q i : Nat} (h : Turned fn b q xs i) (hi : i < b.length) : Turned fn b q (xs.set i (fn (numAt b i) (stepsAt q b.length i))) (i + 1) := by
  refine ⟨by simp [h.1], fun j hj hjb => ?_⟩
  rw [num_set (by rw [h.1]; exact hi)]
  by_cases hji : j = i
  · subst hji
    rw [if_pos rfl]
  · rw [if_neg hji]
    exact h.2 j (by omega) hjb
theorem rightQ_parts (b : List Int) (q m : Int) : rightQ b q m = (isBlk b m && isUp q 31) := by
  unfold rightQ quantOk isBlk isUp sideN
  by_cases h1 : b.length = 16
  · rw [if_pos h1]; simp [h1]; cases withinB b m <;> simp
  · by_cases h2 : b.length = 64
    · rw [if_neg h1, if_pos h2]; simp [h2]; cases withinB b m <;> simp
    · rw [if_neg h1, if_neg h2]; simp [h1, h2]

set_option maxRecDepth 20000 in
set_option maxHeartbeats 4000000 in
theorem qeach_any (F : FuncId) (fn : Int → Int → Int) (hfn : NumFn F fn) (A : Option Addr) (c : Nat) (b : List Int) (q : Int) (w : World) (hs : Src w (.slice A b.length c) (b.map I64)) (hb : b.length ≤ 1000000) :
    Calls Try.prog 37 #[.slice A b.length c, .int .i64 q, .func (.func F) #[] #[]] w (NumErr w (eachR fn b q)) := by
  have HB := Lib.hid (qblock_any A c b 67108864 w hs hb (by omega) (by omega))
  obtain ⟨R, hR⟩ : ∃ R, R = eachR fn b q := ⟨_, rfl⟩
  rw [← hR]
  unfold eachR at hR
  have HQ := Lib.hid fun W => qupto_any q 31 W
  cases h1 : isBlk b 67108864
  · rw [rightQ_parts, h1] at hR
    rw [h1] at HB
    have hr : R = ([], 1) := hR
    have HR := Lib.hid hr
    obtain ⟨n, hn⟩ : ∃ n, n = b.length := ⟨_, rfl⟩
    rw [← hn] at HB ⊢
    clear hR hr h1 hb hs HQ hn hfn
    go_enter Try.func37, Try.ntmps37
    go_wp2_with fail
    refine HB.out.mono ?_
    rintro e w1 ⟨rfl, hf⟩
    have Hf := Lib.hid hf
    clear hf
    go_wp2_with fail
    go_ret2
    exact NumErr.none HR.out Hf.out
  · rw [h1] at HB
    cases h2 : isUp q 31
    · rw [rightQ_parts, h1, h2] at hR
      rw [h2] at HQ
      have hr : R = ([], 1) := hR
      have HR := Lib.hid hr
      obtain ⟨n, hn⟩ : ∃ n, n = b.length := ⟨_, rfl⟩
      rw [← hn] at HB ⊢
      clear hR hr h1 h2 hb hs hn hfn
      go_enter Try.func37, Try.ntmps37
      go_wp2_with fail
      refine HB.out.mono ?_
      rintro e w1 ⟨rfl, hf⟩
      have Hf := Lib.hid hf
      clear hf
      go_wp2_with fail
      refine (HQ.out _).mono ?_
      rintro e w2 ⟨rfl, rfl⟩
      go_wp2_with fail
      go_ret2
      exact NumErr.none HR.out Hf.out
    · have hgood : rightQ b q 67108864 = true := by rw [rightQ_parts, h1, h2]; rfl
      rw [h2] at HQ
      rw [if_pos hgood] at hR
      obtain ⟨hlen, ⟨q1, q2⟩, hwi⟩ := right_parts hgood
      obtain ⟨Q, rfl⟩ : ∃ Q : Nat, q = (Q : Int) := ⟨q.toNat, by omega⟩
      rw [Int.toNat_natCast] at hR
      have hQ : Q ≤ 31 := by omega
      obtain ⟨n, hn⟩ : ∃ n, n = b.length := ⟨_, rfl⟩
      obtain ⟨N, hN⟩ : ∃ N, N = sideQ n := ⟨_, rfl⟩
      have hN4 : 4 ≤ N ∧ N ≤ 8 := by rw [hN]; exact sideQ_form
      have hstep : ∀ i, i < n → ∀ W, Calls Try.prog 36 #[.int .i64 (Q : Int), .int .i64 ((i % N : Nat) : Int), .int .i64 ((i / N : Nat) : Int)] W fun e w' => e = .returned (.int .i64 (stepsAt Q n i)) ∧ w' = W := by
        intro i hi W
        obtain ⟨a1, a2⟩ := side_cell (n := n) (i := i) (by rw [hn]; exact hlen) hi
        rw [hN]
        exact qstep_any Q (i % sideQ n) (i / sideQ n) W hQ a1 a2
      have hlev : ∀ i, i < n → ∀ W, Calls Try.prog F #[.int .i64 (numAt b i), .int .i64 (stepsAt Q n i)] W fun e w' => e = .returned (.int .i64 (fn (numAt b i) (stepsAt Q n i))) ∧ w' = W := by
        intro i hi W
        have a1 := within_at hwi (j := i) (by omega)
        have a2 := stepsAt_le hQ (n := n) (by rw [hn]; exact hlen) hi
        exact hfn.run _ _ W (by omega) (by omega) (by omega) (by omega)
      have hside : sideI (n : Int) = (N : Int) := by
        rw [sideI_nat, hN]
        unfold sideN sideQ
        rcases hlen with h | h
        · rw [if_pos (by omega), if_pos (by omega)]
        · rw [if_neg (by omega), if_pos (by omega), if_neg (by omega)]
      have hSd : ∀ W, Calls Try.prog 51 #[.int .i64 (n : Int)] W fun e w' => e = .returned (.int .i64 (N : Int)) ∧ w' = W := by
        intro W
        have := qside_any (n : Int) W
        rwa [hside] at this
      have HSide := Lib.hid hSd
      have hclone : ∀ W, Fr [] w W → Calls Try.prog 58 #[.slice A n c] W fun e w' => ∃ B d, e = .returned (.slice B n d) ∧ MineN W w' (.slice B n d) b := by
        intro W hf
        rw [hn]
        exact lclone_any A c b W (hs.fr0 hf) hb
      have HClone := Lib.hid hclone
      have hn64 : n ≤ 64 := by omega
      have HStep := Lib.hid hstep; have HLev := Lib.hid hlev; have HR := Lib.hid hR; have Hn := Lib.hid hn; have HS := Lib.hid hs
      have hE := hfn.enters
      rw [← hn] at HB ⊢
      clear hR hgood hlen hwi hn hs hb hN hstep hlev q1 q2 h1 h2 hside hSd hclone hfn hQ
      go_enter Try.func37, Try.ntmps37
      go_wp2_with fail
      refine HB.out.mono ?_
      rintro e w1 ⟨rfl, hf1⟩
      have Hf1 := Lib.hid hf1
      clear hf1 HB
      go_wp2_with fail
      refine (HQ.out _).mono ?_
      rintro e w2 ⟨rfl, rfl⟩
      go_wp2_with fail
      refine (HSide.out _).mono ?_
      rintro e w3 ⟨rfl, rfl⟩
      go_wp2_with fail
      refine (HClone.out _ Hf1.out).mono ?_
      rintro e w4 ⟨B, d, rfl, hM⟩
      have HM0 := Lib.hid hM
      clear hM HSide HQ HClone
      go_wp2_with fail
      go_loopw [27] (fun s27 wr => ∃ (i : Nat) (xs : List Int), i ≤ n ∧ s27 = .int .i64 (i : Int) ∧ MineN w3 wr (.slice B n d) xs ∧ Turned fn b Q xs i) (fun s27 _ => n - (intOf s27).toNat)
      case atStart => exact ⟨0, b, by omega, rfl, HM0.out, rfl, by omega⟩
      case round =>
        clear HM0
        obtain ⟨i, xs, hi, rfl, hM, hT⟩ := hrel
        by_cases hlt : i < n
        · have eg : decide (i < n) = true := by simpa using hlt
          have hib : i < b.length := by have := Hn.out; omega
          obtain ⟨ad, rfl, cx⟩ := (HS.out.fr0 (Hf1.out.trans hM.fr (by simp))).num (k := i) hib
          obtain ⟨g, rfl, hgl, hgw, cz, fz, -, hst⟩ := (hM.fr0 (Fr.refl [] wr).drew).cell (j := i) (by rw [hT.1]; exact hib)
          have hset := hT.set hib
          have hsp := HStep.out i hlt
          have hlv := HLev.out i hlt
          rw [← Hn.out] at hset
          obtain ⟨I1, hI1⟩ : ∃ I1, I1 = i % N := ⟨_, rfl⟩
          obtain ⟨I2, hI2⟩ : ∃ I2, I2 = i / N := ⟨_, rfl⟩
          have f1 : (i : Int) % (N : Int) = (I1 : Int) := by rw [hI1]; simp
          have f2 : (i : Int) / (N : Int) = (I2 : Int) := by rw [hI2]; simp
          have f3 : (i : Int).tmod (N : Int) = (I1 : Int) := by rw [hI1]; rfl
          have f4 : (i : Int).tdiv (N : Int) = (I2 : Int) := by rw [hI2]; rfl
          have hI1l : I1 ≤ 64 := by rw [hI1]; exact Nat.le_trans (Nat.mod_le _ _) (by omega)
          have hI2l : I2 ≤ 64 := by rw [hI2]; exact Nat.le_trans (Nat.div_le_self _ _) (by omega)
          have w1 : IntKind.i64.wrap (I1 : Int) = (I1 : Int) := IntWalk.i64_in _ (by omega)
          have w2 : IntKind.i64.wrap (I2 : Int) = (I2 : Int) := IntWalk.i64_in _ (by omega)
          have hN0 : ¬ N = 0 := by omega
          have hN0' : ¬ (N : Int) = 0 := by omega
          rw [← hI1, ← hI2] at hsp
          rw [show numAt b i = b.getD i 0 from rfl] at hlv hset
          obtain ⟨v, hv⟩ : ∃ v, v = b.getD i 0 := ⟨_, rfl⟩
          rw [← hv] at hlv hset cx
          obtain ⟨s, hs⟩ : ∃ s, s = stepsAt Q n i := ⟨_, rfl⟩
          rw [← hs] at hsp hlv hset
          obtain ⟨L, hL⟩ : ∃ L, L = fn v s := ⟨_, rfl⟩
          rw [← hL] at hlv hset
          obtain ⟨z, hz⟩ : ∃ z, z = xs.getD i 0 := ⟨_, rfl⟩
          rw [← hz] at cz
          have Hsp := Lib.hid hsp; have Hlv := Lib.hid hlv; have HM3 := Lib.hid (hst L); have HT3 := Lib.hid hset; have HM := Lib.hid hM
          clear hsp hlv hv hs hL hz hI1 hI2 hM hT hst hset hib
          go_upto_region 8 with fail
          refine wp_region_held_drew (S := fun _ => True) (by kernel_rfl) ?_ (fun hHeld => ?_)
          · trivial
          refine wpAnyH_pick 0 (v := ?_) rfl (by kernel_rfl) (by kernel_rfl) (by kernel_rfl) (fun _ _ _ h => h) (by assumption) (by rfl) ?_ ?_
          rotate_left
          · (intro w hSw; (try dsimp only at hSw); go_simp) <;> (with_reducible rfl)
          (try simp only [Act.put, List.setIfInBounds_toArray, List.set_cons_zero, List.set_cons_succ])
          refine wpAnyH_pick 1 (v := ?_) rfl (by kernel_rfl) (by kernel_rfl) (by kernel_rfl) (fun _ _ _ h => h) (by assumption) (by rfl) ?_ ?_
          rotate_left
          · (intro w hSw; (try dsimp only at hSw); go_simp) <;> (with_reducible rfl)
          (try simp only [Act.put, List.setIfInBounds_toArray, List.set_cons_zero, List.set_cons_succ])
          refine wpAnyH_pick 2 (v := ?_) rfl (by kernel_rfl) (by kernel_rfl) (by kernel_rfl) (fun _ _ _ h => h) (by assumption) (by rfl) ?_ ?_
          rotate_left
          · (intro w hSw; (try dsimp only at hSw); go_simp) <;> (with_reducible rfl)
          (try simp only [Act.put, List.setIfInBounds_toArray, List.set_cons_zero, List.set_cons_succ])
          refine wpAnyH_pick 3 (v := ?_) rfl (by kernel_rfl) (by kernel_rfl) (by kernel_rfl) (fun _ _ _ h => h) (by assumption) (by rfl) ?_ ?_
          rotate_left
          · (intro w hSw; (try dsimp only at hSw); go_simp) <;> (with_reducible rfl)
          (try simp only [Act.put, List.setIfInBounds_toArray, List.set_cons_zero, List.set_cons_succ])
          refine wpAnyH_pick 4 (v := ?_) rfl (by kernel_rfl) (by kernel_rfl) (by kernel_rfl) (fun _ _ _ h => h) (by assumption) (by rfl) ?_ ?_
          rotate_left
          · (intro w hSw; (try dsimp only at hSw); go_simp) <;> (with_reducible rfl)
          (try simp only [Act.put, List.setIfInBounds_toArray, List.set_cons_zero, List.set_cons_succ])
          refine wpAnyH_pick 5 (v := ?_) rfl (by kernel_rfl) (by kernel_rfl) (by kernel_rfl) (fun _ _ _ h => h) (by assumption) (by rfl) ?_ ?_
          rotate_left
          · (intro w hSw; (try dsimp only at hSw); go_simp) <;> (with_reducible rfl)
          (try simp only [Act.put, List.setIfInBounds_toArray, List.set_cons_zero, List.set_cons_succ])
          refine wpAnyH_pick 6 (v := ?_) rfl (by kernel_rfl) (by kernel_rfl) (by kernel_rfl) (fun _ _ _ h => h) (by assumption) (by rfl) ?_ ?_
          rotate_left
          · (intro w hSw; (try dsimp only at hSw); go_simp) <;> (with_reducible rfl)
          (try simp only [Act.put, List.setIfInBounds_toArray, List.set_cons_zero, List.set_cons_succ])
          refine wpAnyH_pick 7 (v := ?_) rfl (by kernel_rfl) (by kernel_rfl) (by kernel_rfl) (fun _ _ _ h => h) (by assumption) (by rfl) ?_ ?_
          rotate_left
          · (intro w hSw; (try dsimp only at hSw); go_simp) <;> (with_reducible rfl)
          (try simp only [Act.put, List.setIfInBounds_toArray, List.set_cons_zero, List.set_cons_succ])
          refine wpAnyH_pick 8 (v := ?_) rfl (by kernel_rfl) (by kernel_rfl) (by kernel_rfl) (fun _ _ _ h => h) (by assumption) (by rfl) ?_ ?_
          rotate_left
          · (intro w hSw; (try dsimp only at hSw); go_simp) <;> (with_reducible rfl)
          (try simp only [Act.put, List.setIfInBounds_toArray, List.set_cons_zero, List.set_cons_succ])
          refine wpAnyH_pick 9 (v := ?_) rfl (by kernel_rfl) (by kernel_rfl) (by kernel_rfl) (fun _ _ _ h => h) (by assumption) (by rfl) ?_ ?_
          rotate_left
          · (intro w hSw; (try dsimp only at hSw); go_simp) <;> (with_reducible rfl)
          (try simp only [Act.put, List.setIfInBounds_toArray, List.set_cons_zero, List.set_cons_succ])
          refine wpAnyH_pick 10 (v := ?_) rfl (by kernel_rfl) (by kernel_rfl) (by kernel_rfl) (fun _ _ _ h => h) (by assumption) (by rfl) ?_ ?_
          rotate_left
          · (intro w hSw; (try dsimp only at hSw); go_simp) <;> (with_reducible rfl)
          (try simp only [Act.put, List.setIfInBounds_toArray, List.set_cons_zero, List.set_cons_succ])
          refine wpAnyH_ready (rs := [11]) (by kernel_rfl) (by simp) ?_
          refine AllReadyH_pick rfl (fun K hK => ?_) (AllReadyH.nil)
          go_simp
          refine (Hsp.out _).mono ?_
          rintro e w5 ⟨rfl, rfl⟩
          go_wp2_with fail
          refine hK.out _ _ ?_ (fun hHeld => ?_)
          · trivial
          clear hK K
          (try simp only [Act.put, List.setIfInBounds_toArray, List.set_cons_zero, List.set_cons_succ])
          refine wpAnyH_ready (rs := [12]) (by kernel_rfl) (by simp) ?_
          refine AllReadyH_pick rfl (fun K hK => ?_) (AllReadyH.nil)
          go_simp
          refine (Hlv.out _).mono ?_
          rintro e w6 ⟨rfl, rfl⟩
          go_wp2_with fail
          refine hK.out _ _ ?_ (fun hHeld => ?_)
          · trivial
          clear hK K
          (try simp only [Act.put, List.setIfInBounds_toArray, List.set_cons_zero, List.set_cons_succ])
          refine wpAnyH_pick 13 (v := ?_) rfl (by kernel_rfl) (by kernel_rfl) (by kernel_rfl) (fun _ _ _ h => h) (by assumption) (by rfl) ?_ ?_
          rotate_left
          · (intro w hSw; (try dsimp only at hSw); go_simp) <;> (with_reducible rfl)
          (try simp only [Act.put, List.setIfInBounds_toArray, List.set_cons_zero, List.set_cons_succ])
          refine wpAnyH_ready (rs := [14]) (by kernel_rfl) (by simp) ?_
          refine AllReadyH_pick rfl (fun K hK => ?_) (AllReadyH.nil)
          skip
          go_simp
          refine hK.out _ _ ?_ (fun hHeld => ?_)
          · trivial
          clear hK K
          (try simp only [Act.put, List.setIfInBounds_toArray, List.set_cons_zero, List.set_cons_succ])
          refine wpAnyH_done (by kernel_rfl) ?_ _
          skip
          go_wp2_with fail
          exact ⟨⟨i + 1, _, by omega, by simp, HM3.out, HT3.out⟩, by simp [intOf]; omega⟩
        · have eg : decide (i < n) = false := by simpa using hlt
          have hin : i = n := by omega
          subst hin
          have hx : xs = eachN fn b Q := Turned.full (by rw [← Hn.out]; exact hT)
          have hxl : xs.length = i := by rw [hT.1, Hn.out]
          rw [hx] at hM hxl
          have HM := Lib.hid hM; have Hxl := Lib.hid hxl
          clear hM hT hx hxl
          go_wp2_with fail
          go_ret2
          rw [HR.out]
          refine ⟨B, d, by rw [Hxl.out]; rfl, ?_, Hf1.out.trans HM.out.fr (by simp)⟩
          rw [Hxl.out]
          exact HM.out.src
end Go.Proofs.Ytendcmdpmohacaa

/-
  Contracts of the landed quant: Coarse, Fine. Conditions: blocks of bounded length.
-/
namespace Go.Proofs.Ytendcmdpmohacaa
open Go.RowKit

set_option maxRecDepth 20000 in
theorem qCoarse_any (A : Option Addr) (c : Nat) (b : List Int) (q : Int) (w : World) (hs : Src w (.slice A b.length c) (b.map I64)) (hb : b.length ≤ 1000000) :
    Calls Try.prog 15 #[.slice A b.length c, .int .i64 q] w (NumErr w (coarseL b q)) := by
  have H := Lib.hid (qeach_any 12 levelOf numLevel A c b q w hs hb)
  rw [show coarseL b q = eachR levelOf b q from rfl]
  obtain ⟨R, hR⟩ : ∃ R, R = eachR levelOf b q := ⟨_, rfl⟩
  rw [← hR] at H ⊢
  obtain ⟨n, hn⟩ : ∃ n, n = b.length := ⟨_, rfl⟩
  rw [← hn] at H ⊢
  clear hs hb hR hn
  go_enter Try.func15, Try.ntmps15
  go_wp2_with fail
  refine H.out.mono ?_
  rintro e w1 ⟨B, d, rfl, hs, hf⟩
  have HS := Lib.hid hs; have HF := Lib.hid hf
  clear hs hf H
  go_wp2_with fail
  go_ret2
  exact ⟨B, d, rfl, HS.out, HF.out⟩

theorem eachR_fine (b : List Int) (q : Int) : fineL b q = if (eachR (fun v s => v * s) b q).2 = 0 then (if withinB (eachR (fun v s => v * s) b q).1 67108864 then eachR (fun v s => v * s) b q else ([], 1)) else ([], 1) := by
  unfold fineL eachR
  cases h : rightQ b q 67108864
  · simp
  · simp; rfl
theorem eachR_code (fn : Int → Int → Int) (b : List Int) (q : Int) : (eachR fn b q).2 = 0 ∨ eachR fn b q = ([], 1) := by
  unfold eachR
  split
  · exact .inl rfl
  · exact .inr rfl
theorem eachR_len (fn : Int → Int → Int) (b : List Int) (q : Int) : (eachR fn b q).1.length ≤ b.length := by
  unfold eachR
  split
  · simp [eachN]
  · simp
set_option maxRecDepth 20000 in
set_option maxHeartbeats 4000000 in
theorem qFine_any (A : Option Addr) (c : Nat) (b : List Int) (q : Int) (w : World) (hs : Src w (.slice A b.length c) (b.map I64)) (hb : b.length ≤ 1000000) :
    Calls Try.prog 17 #[.slice A b.length c, .int .i64 q] w (NumErr w (fineL b q)) := by
  have H := Lib.hid (qeach_any 14 (fun v s => v * s) numValue A c b q w hs hb)
  obtain ⟨F, hF⟩ : ∃ F, F = fineL b q := ⟨_, rfl⟩
  rw [← hF]
  have hR1 := eachR_code (fun v s => v * s) b q
  have hlen := eachR_len (fun v s => v * s) b q
  rw [eachR_fine] at hF
  obtain ⟨R, hR⟩ : ∃ R, R = eachR (fun v s => v * s) b q := ⟨_, rfl⟩
  rw [← hR] at H hR1 hF hlen
  have HBe := Lib.hid fun W => qbeyond_any 67108864 W
  obtain ⟨l, e⟩ := R
  simp only at hR1 hF hlen
  have hl6 : l.length ≤ 1000000 := by omega
  obtain ⟨n, hn⟩ : ∃ n, n = b.length := ⟨_, rfl⟩
  rw [← hn] at H ⊢
  clear hs hb hR hn hlen
  rcases hR1 with rfl | h1
  · rw [if_pos rfl] at hF
    obtain ⟨m, hm⟩ : ∃ m, m = l.length := ⟨_, rfl⟩
    cases hw : withinB l 67108864
    · rw [hw, if_neg (by simp)] at hF
      have HFl := Lib.hid hF; have Hw := Lib.hid hw; have Hm := Lib.hid hm
      clear hF hw hm
      go_enter Try.func17, Try.ntmps17
      go_wp2_with fail
      refine H.out.mono ?_
      rintro e w1 ⟨B, d, rfl, hs, hf⟩
      simp only at hs ⊢
      rw [← Hm.out] at hs ⊢
      have HS := Lib.hid hs; have HF := Lib.hid hf
      clear hs hf H
      go_wp2_with fail
      refine (HBe.out _).mono ?_
      rintro e w2 ⟨g, rfl, hg, hf⟩
      have HC := Lib.hid (qcontains_any B d l g 67108864 w2 (by rw [← Hm.out]; exact HS.out.fr0 hf) hl6 hg (by omega) (by omega))
      rw [← Hm.out, Hw.out] at HC
      have HF2 := Lib.hid (HF.out.trans hf (by simp))
      clear hg hf HBe HF HS
      obtain ⟨V, hV⟩ : ∃ V, V = beyondOf g := ⟨_, rfl⟩
      rw [← hV] at HC ⊢
      clear hV
      go_wp2_with fail
      refine HC.out.mono ?_
      rintro e w3 ⟨rfl, rfl⟩
      go_wp2_with fail
      go_ret2
      exact NumErr.none HFl.out HF2.out
    · rw [hw, if_pos rfl] at hF
      have HFl := Lib.hid hF; have Hw := Lib.hid hw; have Hm := Lib.hid hm
      clear hF hw hm
      go_enter Try.func17, Try.ntmps17
      go_wp2_with fail
      refine H.out.mono ?_
      rintro e w1 ⟨B, d, rfl, hs, hf⟩
      simp only at hs ⊢
      rw [← Hm.out] at hs ⊢
      have HS := Lib.hid hs; have HF := Lib.hid hf
      clear hs hf H
      go_wp2_with fail
      refine (HBe.out _).mono ?_
      rintro e w2 ⟨g, rfl, hg, hf⟩
      have HC := Lib.hid (qcontains_any B d l g 67108864 w2 (by rw [← Hm.out]; exact HS.out.fr0 hf) hl6 hg (by omega) (by omega))
      rw [← Hm.out, Hw.out] at HC
      have HF2 := Lib.hid (HF.out.trans hf (by simp)); have HS2 := Lib.hid (HS.out.fr0 hf)
      clear hg hf HBe HF HS
      obtain ⟨V, hV⟩ : ∃ V, V = beyondOf g := ⟨_, rfl⟩
      rw [← hV] at HC ⊢
      clear hV
      go_wp2_with fail
      refine HC.out.mono ?_
      rintro e w3 ⟨rfl, rfl⟩
      go_wp2_with fail
      go_ret2
      rw [HFl.out]
      refine ⟨B, d, by rw [Hm.out]; rfl, ?_, HF2.out⟩
      simp only
      rw [← Hm.out]
      exact HS2.out
  · injection h1 with h1 h2
    subst h1 h2
    rw [if_neg (by decide)] at hF
    have HFl := Lib.hid hF
    clear hF hl6
    go_enter Try.func17, Try.ntmps17
    go_wp2_with fail
    refine H.out.mono ?_
    rintro e w1 ⟨B, d, rfl, hs, hf⟩
    simp only [List.length_nil] at hs ⊢
    have HS := Lib.hid hs; have HF := Lib.hid hf
    clear hs hf H
    go_wp2_with fail
    go_ret2
    rw [HFl.out]
    exact ⟨B, d, rfl, HS.out, HF.out⟩
end Go.Proofs.Ytendcmdpmohacaa

/-
  Contracts of the landed quant: Put, out of the book's. Conditions: blocks of bounded length; a pen that has written no more than 50000 bytes.
-/
namespace Go.Proofs.Ytendcmdpmohacaa
open Go.RowKit

/-- Behind rows of numbers put under several topics, from w0 on. -/
structure Nib8 {X : EncSpec} {Y : DecSpec} (L : BookLite X Y) (w0 : World) (b : Nat) (B : Chs) (p : Nat) (D : List Nat) (e : Enc) (w : World) (M : List (Nat × List Ev)) (D' : List Nat) : Prop where
  bk : L.Bo w b (chsT B M)
  en : X.En w p D' (puts e (evsT B M))
  fr : Fr (b :: p :: D) w0 w
  own : ∀ k ∈ D', k ∈ D ∨ w0.heap.size ≤ k
  sep : b ∉ p :: D'
section
variable {X : EncSpec} {Y : DecSpec} {L : BookLite X Y} {w0 w w' w1 : World} {b p : Nat} {B : Chs} {D D' : List Nat} {e : Enc} {M : List (Nat × List Ev)}
theorem Nib8.start (hb : L.Bo w b B) (he : X.En w p D e) (hs : b ∉ p :: D) : Nib8 L w b B p D e w [] D := ⟨hb, he, Fr.refl _ _, fun _ h => .inl h, hs⟩
theorem Nib8.fr0 (h : Nib8 L w0 b B p D e w M D') (hf : Fr [] w w') : Nib8 L w0 b B p D e w' M D' :=
  ⟨L.fr h.bk hf (by simp), X.fr h.en hf (by simp), h.fr.trans hf (by simp), h.own, h.sep⟩
/-- One row more. -/
theorem Nib8.more (h : Nib8 L w0 b B p D e w M D') {k t n v : Int} {l : List Ev} {r : Ending} (ha : actEvs k t n v = some l) (hp : PutPost L.Bo X.En w b (chsT B M) p D' (puts e (evsT B M)) k t n v r w') :
    r = .returned (.int .i64 0) ∧ ∃ D2, Nib8 L w0 b B p D e w' (M ++ [(t.toNat, l)]) D2 := by
  unfold PutPost at hp
  rw [ha] at hp
  obtain ⟨hr, D2, h1, h2, h3, h4⟩ := hp
  have hbl := L.lt h.bk
  have hsz := h.fr.size
  refine ⟨hr, D2, ?_, ?_, h.fr.trans h3 ?_, ?_, ?_⟩
  · rw [chsT_snoc]; exact h1
  · rw [evsT_snoc, puts_append]; exact h2
  · intro x hx
    rcases List.mem_cons.1 hx with rfl | hx
    · exact .inl (List.mem_cons_self ..)
    · rcases List.mem_cons.1 hx with rfl | hx
      · exact .inl (List.mem_cons_of_mem _ (List.mem_cons_self ..))
      · rcases h.own x hx with hx | hx
        · exact .inl (List.mem_cons_of_mem _ (List.mem_cons_of_mem _ hx))
        · exact .inr hx
  · intro k hk
    rcases h4 k hk with h5 | h5
    · exact h.own k h5
    · exact .inr (by omega)
  · intro hm
    rcases List.mem_cons.1 hm with hm | hm
    · exact h.sep (by rw [hm]; exact List.mem_cons_self ..)
    · rcases h4 b hm with h5 | h5
      · exact h.sep (List.mem_cons_of_mem _ h5)
      · omega
theorem Nib8.n (_ : Nib8 L w0 b B p D e w M D') (hM : Short M) : (puts e (evsT B M)).n ≤ e.n + 42 * M.length :=
  Nat.le_trans (puts_n _ _) (Nat.add_le_add_left (evsT_length M B hM) _)
/-- A row that is new stays. -/
theorem Nib8.src (h : Nib8 L w0 b B p D e w M D') {u : Value} {xs : List Value} (hs : Src w0 u xs) (h1 : ∀ k, u.ownBlock = some k → k ∉ b :: p :: D) : Src w u xs := hs.fr h.fr h1
end

theorem okPut_parts (b : List Int) (t : Int) : okPut b t = (isBlk b 1048576 && isUp t 14) := by
  unfold okPut rightQ quantOk isBlk isUp sideN
  by_cases h1 : b.length = 16
  · rw [if_pos h1]; simp [h1]
  · by_cases h2 : b.length = 64
    · rw [if_neg h1, if_pos h2]; simp [h2]
    · rw [if_neg h1, if_neg h2]; simp [h1, h2]

set_option maxRecDepth 20000 in
theorem qPut_bad (P Q : Value) (A : Option Addr) (c : Nat) (b : List Int) (t : Int) (w : World) (hs : Src w (.slice A b.length c) (b.map I64)) (hb : b.length ≤ 1000) (hok : okPut b t = false) :
    Calls Try.prog 24 #[P, Q, .int .i64 t, .slice A b.length c] w fun r w' => r = .returned (.int .i64 1) ∧ Fr [] w w' := by
  have HB := Lib.hid (qblock_any A c b 1048576 w hs (by omega) (by omega) (by omega))
  rw [okPut_parts] at hok
  have HQ := Lib.hid fun W => qupto_any t 14 W
  obtain ⟨n, hn⟩ : ∃ n, n = b.length := ⟨_, rfl⟩
  rw [← hn] at HB ⊢
  cases h1 : isBlk b 1048576
  · rw [h1] at HB
    clear h1 hb hs hn hok HQ
    go_enter Try.func24, Try.ntmps24
    go_wp2_with fail
    refine HB.out.mono ?_
    rintro e w1 ⟨rfl, hf⟩
    have Hf := Lib.hid hf
    clear hf
    go_wp2_with fail
    go_ret
    exact ⟨rfl, Hf.out⟩
  · rw [h1] at HB
    have h2 : isUp t 14 = false := by rw [h1] at hok; simpa using hok
    rw [h2] at HQ
    clear h1 h2 hb hs hn hok
    go_enter Try.func24, Try.ntmps24
    go_wp2_with fail
    refine HB.out.mono ?_
    rintro e w1 ⟨rfl, hf⟩
    have Hf := Lib.hid hf
    clear hf
    go_wp2_with fail
    refine (HQ.out _).mono ?_
    rintro e w2 ⟨rfl, rfl⟩
    go_wp2_with fail
    go_ret
    exact ⟨rfl, Hf.out⟩

/-- Put where book or encoder are nil: the book's error comes back. -/
theorem qPut_nil (P Q : Value) (A : Option Addr) (c : Nat) (b : List Int) (t : Int) (w : World) (hs : Src w (.slice A b.length c) (b.map I64)) (hb : b.length ≤ 1000)
    (hp : ∀ (v : Nat) W, v ≤ 1048576 → 0 ≤ t → t ≤ 14 → Fr [] w W → Calls Try.prog 45 #[P, Q, .int .i64 t, .int .i64 (v : Int)] W fun r w' => r = .returned (.int .i64 1) ∧ Fr [] W w') :
    Calls Try.prog 24 #[P, Q, .int .i64 t, .slice A b.length c] w fun r w' => r = .returned (.int .i64 1) ∧ Fr [] w w' := by
  cases hok : okPut b t
  · exact qPut_bad P Q A c b t w hs hb hok
  · rw [okPut_parts] at hok
    simp only [Bool.and_eq_true] at hok
    obtain ⟨h1, h2⟩ := hok
    have HB := Lib.hid (qblock_any A c b 1048576 w hs (by omega) (by omega) (by omega))
    have HQ := Lib.hid fun W => qupto_any t 14 W
    rw [h1] at HB
    rw [h2] at HQ
    obtain ⟨t1, t2⟩ := up_bnd h2
    have HSo := Lib.hid fun W (hf : Fr [] w W) => lsort_any A c b W (hs.fr0 hf) hb
    have hsl := sort_len b
    have hul := upTo_le (sortL b)
    obtain ⟨l, hl⟩ : ∃ l, l = sortL b := ⟨_, rfl⟩
    rw [← hl] at HSo hsl hul
    have HUs := Lib.hid fun W A1 c1 (hs : Src W (.slice A1 l.length c1) (l.map I64)) => qused_any A1 c1 l W hs (by omega)
    have HP := Lib.hid fun W => hp (upTo l) W (by omega) t1 t2
    obtain ⟨U, hU⟩ : ∃ U, U = upTo l := ⟨_, rfl⟩
    rw [← hU] at HUs HP
    obtain ⟨n, hn⟩ : ∃ n, n = b.length := ⟨_, rfl⟩
    rw [← hn] at HB HSo ⊢
    obtain ⟨m, hm⟩ : ∃ m, m = l.length := ⟨_, rfl⟩
    rw [← hm] at HUs
    have Hm := Lib.hid hm
    clear h1 h2 t1 t2 hsl hul hl hU hn hm hs hb hp
    go_enter Try.func24, Try.ntmps24
    go_wp2_with fail
    refine HB.out.mono ?_
    rintro e w1 ⟨rfl, hf⟩
    have Hf := Lib.hid hf
    clear hf
    go_wp2_with fail
    refine (HQ.out _).mono ?_
    rintro e w2 ⟨rfl, rfl⟩
    go_wp2_with fail
    refine (HSo.out _ Hf.out).mono ?_
    rintro e w3 ⟨A1, c1, rfl, hM⟩
    rw [← Hm.out] at hM ⊢
    have HM := Lib.hid hM
    clear hM
    go_wp2_with fail
    refine (HUs.out _ _ _ HM.out.src).mono ?_
    rintro e w4 ⟨rfl, rfl⟩
    go_wp2_with fail
    refine (HP.out _ (Hf.out.trans HM.out.fr (by simp))).mono ?_
    rintro e w5 ⟨rfl, hf5⟩
    have HF5 := Lib.hid ((Hf.out.trans HM.out.fr (by simp)).trans hf5 (by simp))
    clear hf5
    go_wp2_with fail
    go_ret
    exact ⟨rfl, HF5.out⟩
end Go.Proofs.Ytendcmdpmohacaa

/-
  Contracts of the landed quant: Put of a block that is one, out of the book's. Conditions: a pen that has written no more than 50000 bytes.
-/
namespace Go.Proofs.Ytendcmdpmohacaa
open Go.RowKit

set_option maxRecDepth 20000 in
set_option maxHeartbeats 8000000 in
theorem qPut_ok {X : EncSpec} {Y : DecSpec} (L : BookLite X Y) (w : World) (q p : Nat) (D : List Nat) (B : Chs) (e : Enc) (A : Option Addr) (c : Nat) (b : List Int) (t : Int) (hbk : L.Bo w q B) (hen : X.En w p D e) (hsep : q ∉ p :: D) (hfine : FineB B) (heok : e.Ok) (hen5 : e.n ≤ 50000)
    (hs : Src w (.slice A b.length c) (b.map I64)) (hb : b.length ≤ 1000) (hok : okPut b t = true) :
    Calls Try.prog 24 #[pt q, pt p, .int .i64 t, .slice A b.length c] w fun r w' => r = .returned (.int .i64 0) ∧ ∃ D', Nib8 L w q B p D e w' (putsT t.toNat (sortL b)) D' := by
  have HB := Lib.hid (qblock_any A c b 1048576 w hs (by omega) (by omega) (by omega))
  have hok0 := hok
  rw [okPut_parts] at hok
  simp only [Bool.and_eq_true] at hok
  obtain ⟨h1, h2⟩ := hok
  have hri : rightQ b 0 1048576 = true := by
    unfold okPut at hok0
    simp only [Bool.and_eq_true] at hok0
    exact hok0.1
  obtain ⟨hlen, -, hwi⟩ := right_parts hri
  have HQ := Lib.hid fun W => qupto_any t 14 W
  rw [h1] at HB
  rw [h2] at HQ
  obtain ⟨t1, t2⟩ := up_bnd h2
  obtain ⟨T, rfl⟩ : ∃ T : Nat, t = (T : Int) := ⟨t.toNat, by omega⟩
  rw [Int.toNat_natCast]
  have hT : T ≤ 14 := by omega
  have HSo := Lib.hid fun W (hf : Fr [] w W) => lsort_any A c b W (hs.fr0 hf) hb
  have hsl := sort_len b
  have hwl := once_sort hwi
  obtain ⟨l, hl⟩ : ∃ l, l = sortL b := ⟨_, rfl⟩
  have hul := upTo_le l
  rw [← hl] at HSo hsl hwl
  rw [← hl]
  have HUs := Lib.hid fun W A1 c1 (hs : Src W (.slice A1 l.length c1) (l.map I64)) => qused_any A1 c1 l W hs (by omega)
  obtain ⟨U, hU⟩ : ∃ U, U = upTo l := ⟨_, rfl⟩
  have hput : putsT T l = [(T, numEvs U)] ++ numsT T (l.take U) := by rw [hU]; rfl
  rw [hput]
  rw [← hU] at HUs hul
  obtain ⟨n, hn⟩ : ∃ n, n = b.length := ⟨_, rfl⟩
  rw [← hn] at HB HSo ⊢
  obtain ⟨m, hm⟩ : ∃ m, m = l.length := ⟨_, rfl⟩
  rw [← hm] at HUs hul hsl
  have hm64 : m ≤ 64 := by omega
  have hq := L.lt hbk
  have hlts := X.lt hen
  have Hm := Lib.hid hm; have Hwl := Lib.hid hwl; have Hq := Lib.hid hq; have Hlts := Lib.hid hlts
  have HN0 := Lib.hid fun W (hf : Fr [] w W) => (Nib8.start (L := L) (L.fr hbk hf (by simp)) (X.fr hen hf (by simp)) hsep)
  have Hfine := Lib.hid hfine; have Heok := Lib.hid heok
  clear h1 h2 t1 t2 hsl hl hU hn hm hs hb hok0 hri hwi hlen hwl hq hlts hbk hen hfine heok hput hsep
  go_enter Try.func24, Try.ntmps24
  go_wp2_with fail
  refine HB.out.mono ?_
  rintro r w1 ⟨rfl, hf⟩
  have Hf := Lib.hid hf
  clear hf HB
  go_wp2_with fail
  refine (HQ.out _).mono ?_
  rintro r w2 ⟨rfl, rfl⟩
  clear HQ
  go_wp2_with fail
  refine (HSo.out _ Hf.out).mono ?_
  rintro r w3 ⟨A1, c1, rfl, hM⟩
  rw [← Hm.out] at hM ⊢
  have HM := Lib.hid hM
  have hcap : m ≤ c1 := by
    rcases hM.src with ⟨e, h⟩ | ⟨ad, c', e, hle, -⟩
    · have h0 : (l.map I64).length = 0 := by rw [h]; rfl
      rw [List.length_map] at h0
      have := Hm.out
      omega
    · injection e with e1 e2 e3
      rw [List.length_map] at hle
      have := Hm.out
      omega
  have hUc : U ≤ c1 := by omega
  clear hM HSo
  go_wp2_with fail
  refine (HUs.out _ _ _ HM.out.src).mono ?_
  rintro r w4 ⟨rfl, rfl⟩
  clear HUs
  have HN := Lib.hid (HN0.out _ (Hf.out.trans HM.out.fr (by simp)))
  have hF04 := Hf.out.trans HM.out.fr (by simp)
  have hap : ∀ k, (Value.slice A1 m c1).ownBlock = some k → k ∉ q :: p :: D := by
    intro k hk hmem
    have g1 := HM.out.new k hk
    have g2 := Hf.out.size
    rcases List.mem_cons.1 hmem with h | h
    · have := Hq.out; omega
    · have := Hlts.out k h; omega
  have HF04 := Lib.hid hF04; have Hap := Lib.hid hap; have HS4 := Lib.hid HM.out.src
  have Hq4 := Lib.hid (Nat.lt_of_lt_of_le Hq.out hF04.size)
  clear hF04 hap HN0 HM
  have hput := L.put w4 q (chsT B []) p D (puts e (evsT B [])) (T : Int) (U : Int) HN.out.bk HN.out.en HN.out.sep (chsT_fine _ Hfine.out) (puts_ok Heok.out (evsT_rights _ Hfine.out)) (by have := HN.out.n (fun x hx => by cases hx); simp at this; omega) ⟨by omega, by omega⟩ ⟨by omega, by omega⟩
  have HPut := Lib.hid hput
  clear hput
  go_wp2_with fail
  refine HPut.out.mono ?_
  intro r w5 hp
  have hact : actEvs 1 (T : Int) 0 (U : Int) = some (numEvs U) := by
    unfold actEvs
    rw [if_neg (by omega), if_pos rfl, if_pos (by omega)]
    rfl
  obtain ⟨rfl, D1, hN1⟩ := HN.out.more hact hp
  rw [Int.toNat_natCast, List.nil_append] at hN1
  have HN1 := Lib.hid hN1
  clear hp hact hN1 HPut HN
  go_wp2_with fail
  go_loopw [39] (fun s39 wr => ∃ (j : Nat) (D2 : List Nat), j ≤ U ∧ s39 = .int .i64 (j : Int) ∧ Nib8 L w4 q B p D e wr ([(T, numEvs U)] ++ numsT T (l.take j)) D2) (fun s39 _ => U - (intOf s39).toNat)
  case atStart => exact ⟨0, D1, by omega, rfl, by simpa [numsT] using HN1.out⟩
  case round =>
    clear HN1
    obtain ⟨j, D2, hj, rfl, hP⟩ := hrel
    by_cases hlt2 : j < U
    · have eg2 : decide (j < U) = true := by simpa using hlt2
      have hjl : j < l.length := by have := Hm.out; omega
      have hS := hP.src HS4.out Hap.out
      obtain ⟨ad, rfl, cx⟩ := hS.num hjl
      have hsn := take_snoc hjl
      have hbx := Hwl.out (numAt l j) (by
        unfold numAt
        rw [List.getD_eq_getElem?_getD, List.getElem?_eq_getElem hjl]
        exact List.getElem_mem hjl)
      unfold numAt at hsn hbx
      obtain ⟨x, hx⟩ : ∃ x, x = l.getD j 0 := ⟨_, rfl⟩
      rw [← hx] at cx hsn hbx
      have hshort : Short ([(T, numEvs U)] ++ numsT T (l.take j)) := by
        refine Short.append (fun y hy => ?_) (numsT_short fun y hy => Hwl.out y (List.mem_of_mem_take hy))
        rw [List.mem_singleton.1 hy]
        have := numEvs_length (v := U) (by omega)
        show (numEvs U).length ≤ 42
        omega
      have hlen := hP.n hshort
      have hll : ([(T, numEvs U)] ++ numsT T (l.take j)).length ≤ 65 := by
        unfold numsT
        rw [List.length_append, List.length_map, List.length_take]
        simp
        omega
      have hps := L.putS wr q _ p D2 _ ((T + 1 : Nat) : Int) x hP.bk hP.en hP.sep (chsT_fine _ Hfine.out) (puts_ok Heok.out (evsT_rights _ Hfine.out)) (by omega) ⟨by omega, by omega⟩ ⟨by omega, by omega⟩
      have hact : actEvs 2 ((T + 1 : Nat) : Int) 0 x = some (sgnEvs x) := by
        unfold actEvs
        rw [if_neg (by omega), if_neg (by decide), if_pos rfl, if_pos hbx]
      have hnext : ([(T, numEvs U)] ++ numsT T (l.take j)) ++ [(T + 1, sgnEvs x)] = [(T, numEvs U)] ++ numsT T (l.take (j + 1)) := by
        rw [hsn, numsT_snoc, List.append_assoc]
      have HPS := Lib.hid hps; have HPx := Lib.hid hP; have Hnext := Lib.hid hnext; have Hact := Lib.hid hact
      clear hps hP hnext hsn hbx hx hshort hlen hll hjl hS hact
      go_wp2_with fail
      refine HPS.out.mono ?_
      intro r w6 hp
      obtain ⟨rfl, D3, hP3⟩ := HPx.out.more Hact.out hp
      rw [Int.toNat_natCast, Hnext.out] at hP3
      have HP3 := Lib.hid hP3
      clear hP3 HPS HPx hp
      go_wp2_with fail
      exact ⟨⟨j + 1, D3, by omega, by simp, HP3.out⟩, by simp [intOf]; omega⟩
    · have eg2 : decide (j < U) = false := by simpa using hlt2
      have hjU : j = U := by omega
      subst hjU
      have HPx := Lib.hid hP
      clear hP
      go_wp2_with fail
      go_ret
      refine ⟨rfl, D2, HPx.out.bk, HPx.out.en, (HF04.out.mono (by simp)).trans HPx.out.fr (fun x hx => .inl hx), fun k hk => ?_, HPx.out.sep⟩
      rcases HPx.out.own k hk with h | h
      · exact .inl h
      · exact .inr (by have := HF04.out.size; omega)
end Go.Proofs.Ytendcmdpmohacaa

/-
  Contracts of the landed quant: Get, out of the book's. Conditions: at most 100000 bytes.
-/
namespace Go.Proofs.Ytendcmdpmohacaa
open Go.RowKit

theorem upTo_zeros (l : List Int) : ∀ n, upTo (l ++ List.replicate n 0) = upTo l
  | 0 => by simp
  | n + 1 => by
    rw [List.replicate_succ', ← List.append_assoc, upTo_snoc, if_pos rfl]
    exact upTo_zeros l n
theorem upTo_fill (n : Nat) (l : List Int) : upTo (fillL n l) = upTo l := upTo_zeros l _
theorem upTo_whole {l : List Int} {k : Nat} (h : l.length = k) : upTo l = k ↔ ¬ (0 < k ∧ numAt l (k - 1) = 0) := by
  by_cases hk : 0 < k
  · obtain ⟨m, rfl⟩ : ∃ m, k = m + 1 := ⟨k - 1, by omega⟩
    have h1 := upTo_take_succ (l := l) (i := m) (by omega)
    rw [← h, List.take_length] at h1
    rw [Nat.add_sub_cancel]
    by_cases h0 : numAt l m = 0
    · rw [if_pos h0] at h1
      have h2 := upTo_le (l.take m)
      rw [List.length_take] at h2
      constructor
      · intro h3; omega
      · intro h3; exact absurd ⟨hk, h0⟩ h3
    · rw [if_neg h0] at h1
      constructor
      · intro _ h3; exact h0 h3.2
      · intro _; omega
  · have := upTo_le l
    constructor
    · intro _ h3; exact hk h3.1
    · intro _; omega

theorem okGet_parts (t n : Int) : okGet t n = (!(sideI n == 0) && isUp t 14) := by
  unfold okGet sideI isUp
  by_cases h1 : n = 16
  · rw [if_pos h1]; simp [h1]
  · by_cases h2 : n = 64
    · rw [if_neg h1, if_pos h2]; simp [h2]
    · rw [if_neg h1, if_neg h2]; simp [h1, h2]

set_option maxRecDepth 20000 in
theorem qGet_bad (P Q : Value) (t n : Int) (w : World) (hok : okGet t n = false) :
    Calls Try.prog 30 #[P, Q, .int .i64 t, .int .i64 n] w fun r w' => r = .returned (.tuple #[.slice none 0 0, .int .i64 1]) ∧ w' = w := by
  have HS := Lib.hid (qside_any n w)
  have HQ := Lib.hid (qupto_any t 14 w)
  rw [okGet_parts] at hok
  obtain ⟨s, hs⟩ : ∃ s, s = sideI n := ⟨_, rfl⟩
  rw [← hs] at HS hok
  clear hs
  cases h1 : (s == 0)
  · rw [h1] at hok
    have h2 : isUp t 14 = false := by simpa using hok
    rw [h2] at HQ
    clear h2 hok
    go_enter Try.func30, Try.ntmps30
    go_wp2_with fail
    refine HS.out.mono ?_
    rintro e w1 ⟨rfl, rfl⟩
    go_wp2_with fail
    refine HQ.out.mono ?_
    rintro e w2 ⟨rfl, rfl⟩
    go_wp2_with fail
    go_ret2
    exact ⟨rfl, rfl⟩
  · clear hok HQ
    go_enter Try.func30, Try.ntmps30
    go_wp2_with fail
    refine HS.out.mono ?_
    rintro e w1 ⟨rfl, rfl⟩
    go_wp2_with fail
    go_ret2
    exact ⟨rfl, rfl⟩

set_option maxRecDepth 20000 in
theorem qGet_nil (P Q : Value) (t n : Int) (w : World)
    (hp : Calls Try.prog 52 #[P, Q, .int .i64 t] w fun r w' => r = .returned (.tuple #[.int .i64 0, .int .i64 1]) ∧ Fr [] w w') :
    Calls Try.prog 30 #[P, Q, .int .i64 t, .int .i64 n] w fun r w' => (∃ A c, r = .returned (.tuple #[.slice A 0 c, .int .i64 1])) ∧ Fr [] w w' := by
  cases hok : okGet t n
  · exact (qGet_bad P Q t n w hok).mono fun r w' h => ⟨⟨none, 0, h.1⟩, by rw [h.2]; exact Fr.refl _ _⟩
  · have HS := Lib.hid (qside_any n w)
    have HQ := Lib.hid (qupto_any t 14 w)
    rw [okGet_parts] at hok
    simp only [Bool.and_eq_true] at hok
    obtain ⟨h1, h2⟩ := hok
    rw [h2] at HQ
    obtain ⟨s, hs⟩ : ∃ s, s = sideI n := ⟨_, rfl⟩
    rw [← hs] at HS h1
    have h3 : (s == 0) = false := by simpa using h1
    have HP := Lib.hid hp
    clear hs h1 h2 hp
    go_enter Try.func30, Try.ntmps30
    go_wp2_with fail
    refine HS.out.mono ?_
    rintro e w1 ⟨rfl, rfl⟩
    go_wp2_with fail
    refine HQ.out.mono ?_
    rintro e w2 ⟨rfl, rfl⟩
    go_wp2_with fail
    refine HP.out.mono ?_
    rintro e w3 ⟨rfl, hf⟩
    have Hf := Lib.hid hf
    clear hf
    go_wp2_with fail
    go_ret2
    exact ⟨⟨none, 0, rfl⟩, Hf.out⟩

/-- A book and a decoder, apart. -/
structure Eye8 {X : EncSpec} {Y : DecSpec} (L : BookLite X Y) (w : World) (b : Nat) (B : Chs) (y : Nat) (K : List Nat) (bs : List UInt8) (d : Dec) : Prop where
  bk : L.Bo w b B
  de : Y.De w y K bs d
  sep : b ∉ y :: K
  okd : Okd bs B d
section
variable {X : EncSpec} {Y : DecSpec} {L : BookLite X Y} {w w' : World} {b y : Nat} {B : Chs} {K : List Nat} {bs : List UInt8} {d : Dec}
theorem Eye8.fr (h : Eye8 L w b B y K bs d) {S : List Nat} (hf : Fr S w w') (h1 : ∀ k ∈ b :: y :: K, k ∉ S) : Eye8 L w' b B y K bs d :=
  ⟨L.fr h.bk hf (h1 b (List.mem_cons_self ..)), Y.fr h.de hf (fun k hk => h1 k (List.mem_cons_of_mem _ hk)), h.sep, h.okd⟩
theorem Eye8.lt (h : Eye8 L w b B y K bs d) : ∀ k ∈ b :: y :: K, k < w.heap.size := fun k hk => by
  rcases List.mem_cons.1 hk with rfl | hk
  · exact L.lt h.bk
  · exact Y.lt h.de k hk
/-- A number got: what it answers, and what is then. -/
def Eye8Post {X : EncSpec} {Y : DecSpec} (L : BookLite X Y) (w : World) (b y : Nat) (K : List Nat) (bs : List UInt8) (g : Got) (r : Ending) (w' : World) : Prop :=
  match g with
  | .bad e => (r = .returned (.tuple #[.int .i64 0, .int .i64 e]) ∧ (e = 41 ∨ e = 51)) ∧ Fr [b, y] w w'
  | .ok v B d => r = .returned (.tuple #[.int .i64 v, .int .i64 0]) ∧ Eye8 L w' b B y K bs d ∧ Fr [b, y] w w'
theorem Eye8.num (h : Eye8 L w b B y K bs d) (hn : bs.length ≤ 100000) {T : Nat} (hT : T ≤ 15) :
    Calls Try.prog 52 #[pt b, pt y, .int .i64 (T : Int)] w (Eye8Post L w b y K bs (getNum bs T B d)) := by
  refine (L.get w b B y K bs d (T : Int) h.bk h.de h.sep h.okd.fine h.okd.rest h.okd.lo h.okd.hi h.okd.at_ hn ⟨by omega, by omega⟩).mono fun r w' hp => ?_
  have ha : getAct bs 1 (T : Int) 0 B d = getNum bs T B d := by unfold getAct; rw [if_neg (by omega), if_pos rfl]; rfl
  rw [ha] at hp
  have hk := getNum_keeps (t := T) h.okd
  have hbad := fun e he => getNum_bad (bs := bs) (t := T) (B := B) (d := d) (e := e) he
  generalize getNum bs T B d = g at hp hk hbad ⊢
  cases g with
  | bad e => exact ⟨⟨hp.1, hbad e rfl⟩, hp.2.1⟩
  | ok v B' d' => exact ⟨hp.1, ⟨hp.2.1, hp.2.2.1, h.sep, hk⟩, hp.2.2.2⟩
theorem Eye8.sgn (h : Eye8 L w b B y K bs d) (hn : bs.length ≤ 100000) {T : Nat} (hT : T ≤ 15) :
    Calls Try.prog 53 #[pt b, pt y, .int .i64 (T : Int)] w (Eye8Post L w b y K bs (getSgn bs T B d)) := by
  refine (L.getS w b B y K bs d (T : Int) h.bk h.de h.sep h.okd.fine h.okd.rest h.okd.lo h.okd.hi h.okd.at_ hn ⟨by omega, by omega⟩).mono fun r w' hp => ?_
  have ha : getAct bs 2 (T : Int) 0 B d = getSgn bs T B d := by unfold getAct; rw [if_neg (by omega), if_neg (by decide), if_pos rfl]; rfl
  rw [ha] at hp
  have hk := getSgn_keeps (t := T) h.okd
  have hbad := fun e he => getSgn_bad (bs := bs) (t := T) (B := B) (d := d) (e := e) he
  generalize getSgn bs T B d = g at hp hk hbad ⊢
  cases g with
  | bad e => exact ⟨⟨hp.1, hbad e rfl⟩, hp.2.1⟩
  | ok v B' d' => exact ⟨hp.1, ⟨hp.2.1, hp.2.2.1, h.sep, hk⟩, hp.2.2.2⟩
end
end Go.Proofs.Ytendcmdpmohacaa

/-
  Contracts of the landed quant: Get of a block, out of the book's. Conditions: at most 100000 bytes.
-/
namespace Go.Proofs.Ytendcmdpmohacaa
open Go.RowKit

def Get8Post {X : EncSpec} {Y : DecSpec} (L : BookLite X Y) (w : World) (b y : Nat) (K : List Nat) (bs : List UInt8) (g : GotL) (r : Ending) (w' : World) : Prop :=
  match g with
  | .bad e => (r = .returned (.tuple #[.slice none 0 0, .int .i64 e]) ∧ (e = 41 ∨ e = 51)) ∧ Fr [b, y] w w'
  | .ok l B d => (∃ A c, r = .returned (.tuple #[.slice A l.length c, .int .i64 0]) ∧ Src w' (.slice A l.length c) (l.map I64) ∧ ∀ k, (Value.slice A l.length c).ownBlock = some k → w.heap.size ≤ k) ∧ Eye8 L w' b B y K bs d ∧ Fr [b, y] w w'

set_option maxRecDepth 20000 in
set_option maxHeartbeats 8000000 in
theorem qGet_ok {X : EncSpec} {Y : DecSpec} (L : BookLite X Y) (w : World) (q y T N : Nat) (KD : List Nat) (bs : List UInt8) (d : Dec) (B : Chs) (h : Eye8 L w q B y KD bs d) (hn : bs.length ≤ 100000) (hN : N = 16 ∨ N = 64) (hT : T ≤ 14) :
    Calls Try.prog 30 #[pt q, pt y, .int .i64 (T : Int), .int .i64 (N : Int)] w (Get8Post L w q y KD bs (getBlk bs T N B d)) := by
  have HSd := Lib.hid (qside_any (N : Int) w)
  have HQ := Lib.hid (qupto_any (T : Int) 14 w)
  have hup : isUp (T : Int) 14 = true := by unfold isUp; simp; omega
  rw [hup] at HQ
  obtain ⟨s, hs⟩ : ∃ s, s = sideI (N : Int) := ⟨_, rfl⟩
  have e1 : (s == 0) = false := by
    rcases hN with rfl | rfl
    · rw [hs]; rfl
    · rw [hs]; rfl
  rw [← hs] at HSd
  have hN16 : 16 ≤ N ∧ N ≤ 64 := by omega
  have hG := h.num hn (T := T) (by omega)
  unfold getBlk
  have hlt := h.lt
  obtain ⟨g, hg⟩ : ∃ g, g = getNum bs T B d := ⟨_, rfl⟩
  have hrange : ∀ k B' d', g = .ok k B' d' → 0 ≤ k := fun k B' d' e => (getNum_range (hg ▸ e)).1
  rw [← hg] at hG ⊢
  have HG := Lib.hid hG; have Hlt := Lib.hid hlt; have Hr := Lib.hid hrange; have HNN := Lib.hid hN
  clear hG hlt h hg hN hrange hup hs
  cases g with
  | bad e =>
    show Calls Try.prog 30 _ w (Get8Post L w q y KD bs (.bad e))
    clear Hr
    by_cases he : e = 41 ∨ e = 51
    · have e6 : (e != 0) = true := by
        rcases he with rfl | rfl <;> rfl
      have He := Lib.hid he
      clear he
      go_enter Try.func30, Try.ntmps30
      go_wp2_with fail
      refine HSd.out.mono ?_
      rintro r w0 ⟨rfl, rfl⟩
      go_wp2_with fail
      refine HQ.out.mono ?_
      rintro r w0 ⟨rfl, rfl⟩
      go_wp2_with fail
      refine HG.out.mono ?_
      rintro r w1 ⟨⟨rfl, -⟩, hF⟩
      have HF := Lib.hid hF
      clear hF HG
      go_wp2_with fail
      go_ret2
      exact ⟨⟨rfl, He.out⟩, HF.out⟩
    · have hno : ∀ r w', ¬ Eye8Post L w q y KD bs (.bad e) r w' := fun r w' k => he k.1.2
      have Hno := Lib.hid hno
      clear hno he
      go_enter Try.func30, Try.ntmps30
      go_wp2_with fail
      refine HSd.out.mono ?_
      rintro r w0 ⟨rfl, rfl⟩
      go_wp2_with fail
      refine HQ.out.mono ?_
      rintro r w0 ⟨rfl, rfl⟩
      go_wp2_with fail
      refine HG.out.mono ?_
      intro r w1 k
      exact absurd k (Hno.out r w1)
  | ok k B1 d1 =>
    obtain ⟨K, rfl⟩ : ∃ K : Nat, k = (K : Int) := ⟨k.toNat, by have := Hr.out k B1 d1 rfl; omega⟩
    show Calls Try.prog 30 _ w (Get8Post L w q y KD bs (if (N : Int) < (K : Int) then .bad 51 else endL N K (getVals bs (T + 1) K [] B1 d1)))
    clear Hr
    by_cases hKN : N < K
    · rw [if_pos (by omega)]
      have e5 : decide (N < K) = true := by simpa using hKN
      go_enter Try.func30, Try.ntmps30
      go_wp2_with fail
      refine HSd.out.mono ?_
      rintro r w0 ⟨rfl, rfl⟩
      go_wp2_with fail
      refine HQ.out.mono ?_
      rintro r w0 ⟨rfl, rfl⟩
      go_wp2_with fail
      refine HG.out.mono ?_
      rintro r w1 ⟨rfl, hE, hF⟩
      have HF := Lib.hid hF
      clear hE hF HG
      go_wp2_with fail
      go_ret2
      exact ⟨⟨rfl, .inr rfl⟩, HF.out⟩
    · rw [if_neg (by omega)]
      have e5 : decide (N < K) = false := by simp; omega
      obtain ⟨V, hV⟩ : ∃ V, V = getVals bs (T + 1) K [] B1 d1 := ⟨_, rfl⟩
      rw [← hV]
      have HV := Lib.hid hV
      clear hV
      obtain ⟨i0, hi0, hz0, hs0, hb0⟩ := info_parts info_num
      go_enter Try.func30, Try.ntmps30
      go_wp2_with fail
      refine HSd.out.mono ?_
      rintro r w0 ⟨rfl, rfl⟩
      go_wp2_with fail
      refine HQ.out.mono ?_
      rintro r w0 ⟨rfl, rfl⟩
      go_wp2_with fail
      refine HG.out.mono ?_
      rintro r w1 ⟨rfl, hE, hF⟩
      have HE := Lib.hid hE; have HF := Lib.hid hF
      clear hE hF HG HSd HQ
      go_wp2_with (at_make; refine wpList_make_mine _ _ 29 3 i0 _ 8 _ _ N rfl rfl Try.underlying29 hi0 hz0 hs0 hb0 rfl rfl rfl (by omega) (by simp only [maxLen]; omega) ?_)
      intro w2 hO hF2 hlt2
      obtain ⟨g, hg⟩ : ∃ g, g = w1.heap.size := ⟨_, rfl⟩
      have hO2 : Own w2 3 (.slice (some ⟨g, 0, none⟩) N N) ((fillL N []).map I64) := by
        rw [fillL_nil, List.map_replicate, hg]; exact hO
      have hgw : w0.heap.size ≤ g := by rw [hg]; exact HF.out.size
      have hgn : g ∉ [q, y] := by
        have h1 := Hlt.out q (List.mem_cons_self ..)
        have h2 := Hlt.out y (List.mem_cons_of_mem _ (List.mem_cons_self ..))
        simp
        omega
      have hgk : ∀ k ∈ q :: y :: KD, k ∉ [g] := by
        intro k hk hm
        have h1 := Hlt.out k hk
        have h2 : k = g := by simpa using hm
        omega
      rw [← hg]
      have HO2 := Lib.hid hO2; have HF2 := Lib.hid (HF.out.trans hF2 (by simp)); have HE2 := Lib.hid (HE.out.fr hF2 (by simp)); have Hgw := Lib.hid hgw; have Hgn := Lib.hid hgn; have Hgk := Lib.hid hgk
      clear hO hF2 hlt2 hg hO2 hgn hgk HF HE hgw hi0 hz0 hs0 hb0 Hlt
      go_wp2_with fail
      go_loopw [11, 38] (fun s11 s38 wr => ∃ (i : Nat) (acc : List Int) (B2 : Chs) (d2 : Dec), i ≤ K ∧ s38 = .int .i64 (i : Int) ∧ s11 = .int .i64 0 ∧ acc.length = i ∧ Eye8 L wr q B2 y KD bs d2 ∧ Own wr 3 (.slice (some ⟨g, 0, none⟩) N N) ((fillL N acc).map I64) ∧ Fr [q, y] w0 wr ∧ V = getVals bs (T + 1) (K - i) acc B2 d2) (fun _ s38 _ => K - (intOf s38).toNat)
      case atStart => exact ⟨0, [], B1, d1, by omega, rfl, rfl, rfl, HE2.out, HO2.out, HF2.out, HV.out⟩
      case round =>
        clear HE2 HO2 HF2 HV
        obtain ⟨i, acc, B2, d2, hi, rfl, rfl, hacc, hE, hO, hF, hV⟩ := hrel
        by_cases hlt : i < K
        · have eg : decide (i < K) = true := by simpa using hlt
          have hS := hE.sgn hn (T := T + 1) (by omega)
          obtain ⟨m, hm⟩ : ∃ m, K - i = m + 1 := ⟨K - i - 1, by omega⟩
          rw [hm] at hV
          cases hg : getSgn bs (T + 1) B2 d2 with
          | bad e =>
            rw [hg] at hS
            rw [getVals_bad hg] at hV
            have he := getSgn_bad hg
            have e6 : (e != 0) = true := by
              rcases he with rfl | rfl <;> rfl
            have HS := Lib.hid hS; have HV := Lib.hid hV; have HFx := Lib.hid hF; have He := Lib.hid he; have HOx := Lib.hid hO
            have hiN : i < N := by omega
            have Hacc := Lib.hid hacc
            clear hS hV hF hE hO hg hacc hm he
            go_wp2_with fail
            refine HS.out.mono ?_
            rintro r w3 ⟨⟨rfl, -⟩, hF3⟩
            have hO3 := HOx.out.fr hF3 (fun k hk => by
              have hk2 : g = k := by simpa [Value.ownBlock] using hk
              subst hk2
              exact Hgn.out)
            obtain ⟨cz, fz⟩ := own_num (j := i) hO3 (by rw [fillL_length (by have := Hacc.out; omega)]; exact hiN)
            have HF3 := Lib.hid (Fr.setCell (HFx.out.trans hF3 (by simp)) (p := ⟨g, i, none⟩) (.inr Hgw.out) (.int .i64 0))
            obtain ⟨z, hz⟩ : ∃ z, z = numAt (fillL N acc) i := ⟨_, rfl⟩
            rw [← hz] at cz
            clear hF3 HS HFx hO3 hz
            go_wp2_with fail
            go_ret2
            rw [HV.out]
            exact ⟨⟨rfl, He.out⟩, HF3.out⟩
          | ok v B3 d3 =>
            rw [hg] at hS
            rw [getVals_ok hg, show m = K - (i + 1) by omega] at hV
            have hiN : i < N := by omega
            have HS := Lib.hid hS; have HV := Lib.hid hV; have HFx := Lib.hid hF; have HOx := Lib.hid hO; have Hacc := Lib.hid hacc
            clear hS hV hF hE hO hg hacc hm
            go_wp2_with fail
            refine HS.out.mono ?_
            rintro r w3 ⟨rfl, hE3, hF3⟩
            have hO3 := HOx.out.fr hF3 (fun k hk => by
              have hk2 : g = k := by simpa [Value.ownBlock] using hk
              subst hk2
              exact Hgn.out)
            obtain ⟨cz, fz⟩ := own_num (j := i) hO3 (by rw [fillL_length (by have := Hacc.out; omega)]; exact hiN)
            have hfl := Fr.setCell (Fr.refl [g] w3) (p := ⟨g, i, none⟩) (.inl (by simp)) (.int .i64 v)
            have HE4 := Lib.hid (hE3.fr hfl Hgk.out)
            have HO4 := Lib.hid (own_fill hO3 Hacc.out hiN v)
            have HF4 := Lib.hid (Fr.setCell (HFx.out.trans hF3 (by simp)) (p := ⟨g, i, none⟩) (.inr Hgw.out) (.int .i64 v))
            obtain ⟨z, hz⟩ : ∃ z, z = numAt (fillL N acc) i := ⟨_, rfl⟩
            rw [← hz] at cz
            clear hE3 hF3 hO3 hfl hz HFx HOx HS
            go_wp2_with fail
            exact ⟨⟨i + 1, acc ++ [v], B3, d3, by omega, by simp, rfl, by rw [List.length_append, Hacc.out]; rfl, HE4.out, HO4.out, HF4.out, HV.out⟩, by simp [intOf]; omega⟩
        · have eg : decide (i < K) = false := by simpa using hlt
          have hiK : i = K := by omega
          rw [hiK, Nat.sub_self] at hV
          have hV2 : V = .ok acc B2 d2 := hV
          rw [hiK] at hacc
          have hfl : (fillL N acc).length = N := fillL_length (by omega)
          have hU := lunsort_any (some ⟨g, 0, none⟩) N (fillL N acc) wr (by rw [hfl]; exact hO.src) (by omega)
          have hus := qused_any (some ⟨g, 0, none⟩) N (fillL N acc) wr (by rw [hfl]; exact hO.src) (by omega)
          rw [upTo_fill] at hus
          have hwh := upTo_whole hacc
          have hul := upTo_le acc
          rw [hfl] at hU hus
          obtain ⟨U, hUe⟩ : ∃ U, U = upTo acc := ⟨_, rfl⟩
          rw [← hUe] at hus hwh hul
          have HU := Lib.hid hU; have HEx := Lib.hid hE; have HFx := Lib.hid hF; have Hus := Lib.hid hus
          by_cases hz : U = K
          · have hend : endL N K V = .ok (unsortL (fillL N acc)) B2 d2 := by rw [hV2]; exact if_neg (hwh.1 hz)
            have e7 : ((U : Int) != (K : Int)) = false := by simp; omega
            have Hend := Lib.hid hend
            obtain ⟨u, hu⟩ : ∃ u, u = unsortL (fillL N acc) := ⟨_, rfl⟩
            rw [← hu] at HU Hend
            clear hz hend hU hE hF hO hfl hacc hV hV2 hiK hus hwh hul hUe hu
            go_wp2_with fail
            refine Hus.out.mono ?_
            rintro r w4 ⟨rfl, rfl⟩
            go_wp2_with fail
            refine HU.out.mono ?_
            rintro r w5 ⟨A5, c5, rfl, hM5⟩
            have HS5 := Lib.hid hM5.src; have HF5 := Lib.hid (HFx.out.trans hM5.fr (by simp)); have HE5 := Lib.hid (HEx.out.fr hM5.fr (by simp))
            have hnew : ∀ k, (Value.slice A5 u.length c5).ownBlock = some k → w0.heap.size ≤ k := fun k hk => Nat.le_trans HFx.out.size (hM5.new k hk)
            have Hnew := Lib.hid hnew
            clear hM5 hnew
            go_wp2_with fail
            go_ret2
            rw [Hend.out]
            exact ⟨⟨A5, c5, rfl, HS5.out, Hnew.out⟩, HE5.out, HF5.out⟩
          · have hend : endL N K V = .bad 51 := by
              rw [hV2]
              exact if_pos (Decidable.byContradiction fun k => hz (hwh.2 k))
            have e7 : ((U : Int) != (K : Int)) = true := by simp; omega
            have Hend := Lib.hid hend
            clear hz hend hU hE hF hO hfl hacc hV hV2 hiK hus hwh hul hUe HU
            go_wp2_with fail
            refine Hus.out.mono ?_
            rintro r w4 ⟨rfl, rfl⟩
            go_wp2_with fail
            go_ret2
            rw [Hend.out]
            exact ⟨⟨rfl, .inr rfl⟩, HFx.out⟩
end Go.Proofs.Ytendcmdpmohacaa

/-
  The landed quant keeps its contracts.
-/
namespace Go.Proofs.Ytendcmdpmohacaa
open Go.RowKit

def quantI : QuantSpec encI decI where
  Bo := bookL.Bo
  lt := bookL.lt
  fr := bookL.fr
  new := bookL.new
  same := bookL.same
  copy := bookL.copy
  step := fun w q x y _ _ _ => (qStep_any q x y w).mono fun r w' h => ⟨h.1, by rw [h.2]; exact Fr.refl _ _⟩
  level := fun w v s h1 h2 _ h3 => (qLevel_any v s w (by omega) (by omega) h3).mono fun r w' h => ⟨h.1, by rw [h.2]; exact Fr.refl _ _⟩
  value := fun w l s _ _ _ _ => (qValue_any l s w).mono fun r w' h => ⟨h.1, by rw [h.2]; exact Fr.refl _ _⟩
  coarse := fun w A c b q hs hb _ _ => qCoarse_any A c b q w hs (by omega)
  fine := fun w A c b q hs hb _ _ => qFine_any A c b q w hs (by omega)
  put := by
    intro w b B p D e A c xs t hb hE hs hB he hn hsrc _ hx _ _
    cases hok : okPut xs t
    · refine (qPut_bad (pt b) (pt p) A c xs t w hsrc hx hok).mono fun r w' h => ?_
      unfold PutPost8
      rw [hok, if_neg (by simp)]
      exact h
    · refine (qPut_ok bookL w b p D B e A c xs t hb hE hs hB he hn hsrc hx hok).mono ?_
      rintro r w' ⟨hr, D', hN⟩
      unfold PutPost8
      rw [hok, if_pos rfl]
      exact ⟨hr, D', hN.bk, hN.en, hN.fr, hN.own⟩
  get := by
    intro w b B y K bs d t n hb hD hs hB h1 h2 h3 h4 hn ht hN
    unfold gotBlk
    cases hok : okGet t n
    · rw [if_neg (by simp)]
      refine (qGet_bad (pt b) (pt y) t n w hok).mono ?_
      rintro r w' ⟨rfl, rfl⟩
      exact ⟨⟨none, 0, rfl, .inl ⟨rfl, rfl⟩⟩, Fr.refl _ _, fun _ => Fr.refl _ _⟩
    · rw [if_pos rfl]
      have hok2 := hok
      unfold okGet at hok2
      simp only [Bool.and_eq_true, Bool.or_eq_true, decide_eq_true_eq] at hok2
      obtain ⟨T, rfl⟩ : ∃ T : Nat, t = (T : Int) := ⟨t.toNat, by omega⟩
      obtain ⟨N, rfl⟩ : ∃ N : Nat, n = (N : Int) := ⟨n.toNat, by omega⟩
      rw [Int.toNat_natCast, Int.toNat_natCast]
      refine (qGet_ok bookL w b y T N K bs d B ⟨hb, hD, hs, ⟨hB, h2, h3, h4, h1⟩⟩ hn (by omega) (by omega)).mono fun r w' h => ?_
      generalize getBlk bs T N B d = g at h ⊢
      cases g with
      | bad e =>
        obtain ⟨⟨rfl, he⟩, hf⟩ := h
        exact ⟨⟨none, 0, rfl, .inl ⟨rfl, rfl⟩⟩, hf, fun h1 => by omega⟩
      | ok l B' d' =>
        obtain ⟨ha, hE, hf⟩ := h
        exact ⟨ha, hE.bk, hE.de, hf⟩
  putNilB := fun w p D e A c xs t hE hs hx _ ht => qPut_nil (.pointer none) (pt p) A c xs t w hs hx fun v W hv _ _ hf => bookL.putNilB W p D e t (v : Int) (encI.fr hE hf (by simp)) ht ⟨by omega, by omega⟩
  putNilX := fun w b B A c xs t hb hs hx _ ht => qPut_nil (pt b) (.pointer none) A c xs t w hs hx fun v W hv _ _ hf => bookL.putNilX W b B t (v : Int) (bookL.fr hb hf (by simp)) ht ⟨by omega, by omega⟩
  getNilB := fun w t n _ _ => qGet_nil (.pointer none) (.pointer none) t n w ((bGet_bad t none none w (.inl rfl)).mono fun r w' h => ⟨h.1, by rw [h.2]; exact Fr.refl _ _⟩)
  getNilX := fun w b B t n hb ht _ => qGet_nil (pt b) (.pointer none) t n w (bookL.getNilX w b B t hb ht)
end Go.Proofs.Ytendcmdpmohacaa

/-
  A book, an encoder, a decoder in memory that is new since the law's beginning; what putting and getting blocks makes of them, out of the contracts.
-/
namespace Go.Proofs.Ytendcmdpmohacaa
open Go.RowKit

/-! What putting a block answers, and what it makes of the chances and of the code. -/
def errBlk (xs : List Int) (t : Int) : Int := if okPut xs t then 0 else 1
def bkBlk (xs : List Int) (t : Int) (B : Chs) : Chs := if okPut xs t then chsT B (putsT t.toNat (sortL xs)) else B
def enBlk (xs : List Int) (t : Int) (B : Chs) (e : Enc) : Enc := if okPut xs t then puts e (evsT B (putsT t.toNat (sortL xs))) else e
theorem bkBlk_fine {xs : List Int} {t : Int} {B : Chs} (h : FineB B) : FineB (bkBlk xs t B) := by
  unfold bkBlk
  split
  · exact chsT_fine _ h
  · exact h
theorem enBlk_ok {xs : List Int} {t : Int} {B : Chs} {e : Enc} (h : FineB B) (he : e.Ok) : (enBlk xs t B e).Ok := by
  unfold enBlk
  split
  · exact puts_ok he (evsT_rights _ h)
  · exact he
theorem enBlk_n (xs : List Int) (t : Int) (B : Chs) (e : Enc) : (enBlk xs t B e).n ≤ e.n + 2730 := by
  unfold enBlk
  split
  · rename_i hok
    unfold okPut at hok
    simp only [Bool.and_eq_true, decide_eq_true_eq] at hok
    obtain ⟨hlen, -, hwi⟩ := right_parts hok.1
    have hs := sort_len xs
    have h1 := puts_n (evsT B (putsT t.toNat (sortL xs))) e
    have h2 := evsT_length (putsT t.toNat (sortL xs)) B (putsT_short (once_sort hwi) (by omega))
    have h3 : (putsT t.toNat (sortL xs)).length ≤ 65 := by
      have := upTo_le (sortL xs)
      unfold putsT numsT
      rw [List.length_cons, List.length_map, List.length_take]
      omega
    omega
  · omega

/-- A book and an encoder, apart. -/
structure Quill8 {X : EncSpec} {Y : DecSpec} (Z : QuantSpec X Y) (w0 w : World) (b : Nat) (B : Chs) (p : Nat) (D : List Nat) (e : Enc) : Prop where
  bk : Z.Bo w b B
  li : Live X w0 w p D e
  nb : w0.heap.size ≤ b
  sep : b ∉ p :: D
  fine : FineB B
section
variable {X : EncSpec} {Y : DecSpec} {Z : QuantSpec X Y} {w0 w w1 w' : World} {b : Nat} {B B' : Chs} {p : Nat} {D D' : List Nat} {e e' : Enc}
theorem Quill8.fr0 (h : Quill8 Z w0 w b B p D e) (hf : Fr [] w w') : Quill8 Z w0 w' b B p D e :=
  ⟨Z.fr h.bk hf (by simp), h.li.fr0 hf, h.nb, h.sep, h.fine⟩
/-- A block put. -/
theorem Quill8.put (h : Quill8 Z w0 w b B p D e) (A : Option Addr) (c : Nat) (xs : List Int) (t : Int) (hs : Src w (.slice A xs.length c) (xs.map I64)) (hap : 0 < xs.length → ∀ k, (Value.slice A xs.length c).ownBlock = some k → k ∉ b :: p :: D) (hx : xs.length ≤ 1000) (hj : Js xs) (ht : InI t) (hn : e.n ≤ 50000) :
    Calls Try.prog 24 #[pt b, pt p, .int .i64 t, .slice A xs.length c] w fun r w' =>
      r = .returned (.int .i64 (errBlk xs t)) ∧ ∃ D', Quill8 Z w0 w' b (bkBlk xs t B) p D' (enBlk xs t B e) ∧ Fr (b :: p :: D) w w' ∧ ∀ k ∈ D', k ∈ D ∨ w.heap.size ≤ k := by
  refine (Z.put w b B p D e A c xs t h.bk h.li.en h.sep h.fine h.li.ok hn hs hap hx hj ht).mono fun r w' hp => ?_
  unfold PutPost8 at hp
  unfold errBlk bkBlk enBlk
  by_cases hok : okPut xs t = true
  · rw [if_pos hok] at hp
    rw [if_pos hok, if_pos hok, if_pos hok]
    obtain ⟨hr, D', hb, he, hf, hd⟩ := hp
    have hbl := Z.lt h.bk
    refine ⟨hr, D', ⟨hb, ⟨he, h.li.fr.trans hf ?_, ?_, puts_ok h.li.ok (evsT_rights _ h.fine)⟩, h.nb, ?_, chsT_fine _ h.fine⟩, hf, hd⟩
    · intro x hx
      rcases List.mem_cons.1 hx with rfl | hx
      · exact .inr h.nb
      · exact .inr (h.li.new x hx)
    · intro k hk
      rcases List.mem_cons.1 hk with rfl | hk
      · exact h.li.new _ (List.mem_cons_self ..)
      · rcases hd k hk with h1 | h1
        · exact h.li.new k (List.mem_cons_of_mem _ h1)
        · exact Nat.le_trans h.li.fr.size h1
    · intro hm
      rcases List.mem_cons.1 hm with hm | hm
      · exact h.sep (by rw [hm]; exact List.mem_cons_self ..)
      · rcases hd b hm with h1 | h1
        · exact h.sep (List.mem_cons_of_mem _ h1)
        · omega
  · rw [if_neg hok] at hp
    rw [if_neg hok, if_neg hok, if_neg hok]
    exact ⟨hp.1, D, h.fr0 hp.2, hp.2.mono (by simp), fun k hk => .inl hk⟩
end

/-! What getting a block keeps. -/
def GotL.Fine (bs : List UInt8) : GotL → Prop
  | .bad e => e ≠ 1
  | .ok _ B d => Okd bs B d
end Go.Proofs.Ytendcmdpmohacaa

/-
  The live question of layer 8, out of the contracts.
-/
namespace Go.Proofs.Ytendcmdpmohacaa
open Go.RowKit

theorem in8 : InI 13 ∧ InI 2 ∧ InI 1 ∧ InI 16 ∧ InI 17 := by unfold InI; omega
theorem js8 : Js b8L := js_small (by decide)
theorem blk8 : errBlk b8L 2 = 0 ∧ bkBlk b8L 2 newBook = lb8 ∧ enBlk b8L 2 newBook encNew = le8 := by
  unfold errBlk bkBlk enBlk
  rw [live8_ok.1]
  exact ⟨rfl, rfl, rfl⟩
theorem bytes_live8 {X : EncSpec} {w0 : World} (W : World) (p : Nat) (D : List Nat) (e : Enc) (h : Live X w0 W p D e) (hn : e.n ≤ 100000) :
    Calls Try.prog 26 #[pt p] W fun r W' => ∃ A c, r = .returned (.slice A e.n c) ∧ Src W' (.slice A e.n c) ((bytesOf e.n e.v).map B8) ∧ Live X w0 W' p D e ∧ Fr [] W W' ∧ ∀ ad, A = some ad → ad.block ∈ D ∨ W.heap.size ≤ ad.block :=
  (X.bytes W p D e h.en h.ok hn).mono fun r W' ⟨u, hr, hS, hF, hb⟩ => by
    obtain ⟨A, c, rfl⟩ := hS.slice
    rw [bytesOf_length] at hS hr
    exact ⟨A, c, hr, hS, h.fr0 hF, hF, fun ad had => hb ad.block (by rw [had]; rfl)⟩

theorem src_lt {w : World} {a : Addr} {n c : Nat} {xs : List Int} (h : Src w (.slice (some a) n c) (xs.map I64)) (hx : 0 < xs.length) : a.block < w.heap.size := by
  have h1 := World.block_lt_of_cell? _ _ (h.numS (k := 0) hx)
  rw [addr_block] at h1
  exact h1

set_option maxRecDepth 20000 in
set_option maxHeartbeats 4000000 in
theorem alive8_any {X : EncSpec} {Y : DecSpec} (Z : QuantSpec X Y) (w : World) :
    Calls Try.prog 11 #[] w fun e w' => e = .returned (.bool true) ∧ Fr [] w w' := by
  obtain ⟨i13, i2, i1, i16, i17⟩ := in8
  have hst := Z.step w 13 2 1 i13 i2 i1
  rw [live8_ok.2.2.1] at hst
  have Hst := Lib.hid hst
  obtain ⟨i0, hi0, hz0, hs0, hb0⟩ := info_parts info_num
  clear hst
  go_enter Try.func11, Try.ntmps11
  go_wp2_with fail
  refine Hst.out.mono ?_
  rintro e w1 ⟨rfl, hF1⟩
  go_wp2_with (at_make; refine wpList_make_mine _ _ 29 3 i0 _ 8 _ _ 16 rfl rfl Try.underlying29 hi0 hz0 hs0 hb0 rfl rfl rfl (by omega) (by simp only [maxLen]; omega) ?_)
  intro w3 hO hF3 hlt3
  have hM : MineN w w3 (.slice (some ⟨w1.heap.size, 0, none⟩) 16 16) (List.replicate 16 0) := by
    refine ⟨?_, hF1.trans hF3 (by simp), fun k hk => ?_⟩
    · rw [List.map_replicate]; exact hO
    · have : w1.heap.size = k := by simpa [Value.ownBlock] using hk
      have := hF1.size
      omega
  obtain ⟨g, hg⟩ : ∃ g, g = w1.heap.size := ⟨_, rfl⟩
  rw [← hg] at hM ⊢
  obtain ⟨g', hg', hgw, hgl, cz, fz, -, hst⟩ := hM.cell (j := 4) (by simp)
  have hge := Option.some.inj hg'
  injection hge with hge
  subst hge
  have hM5 : MineN w (w3.setCell ⟨g, 4, none⟩ (.int .i64 (-3))) (.slice (some ⟨g, 0, none⟩) b8L.length 16) b8L := hst (-3)
  have cz0 : w3.cell? ⟨g, 4, none⟩ = some (.int .i64 0) := cz
  have hg3 : g < (w3.setCell ⟨g, 4, none⟩ (.int .i64 (-3))).heap.size := hM5.own.lt g rfl
  have HM5 := Lib.hid hM5; have Hgw := Lib.hid hgw
  clear hO hF3 hlt3 hM hg cz hst hM5 hi0 hz0 hs0 hb0 hg' hF1 Hst hg3 hgl hgw
  go_wp2_with fail
  refine (Z.new _).mono ?_
  rintro e w4 ⟨b, rfl, hb4, hF4, nb⟩
  have HB4 := Lib.hid hb4; have HM4 := Lib.hid (HM5.out.fr0 hF4); have HF4 := Lib.hid (HM5.out.fr.trans hF4 (by simp))
  have hgb : g < b ∧ w.heap.size ≤ b := by
    have h1 := HM5.out.own.lt g rfl
    have h2 := HM5.out.fr.size
    omega
  have Hgb := Lib.hid hgb
  clear hb4 hF4 nb hgb HM5 cz0 fz
  go_wp2_with fail
  refine (new_live (X := X) w4 HF4.out).mono ?_
  rintro e w5 ⟨p, D, rfl, hL, hF5, np⟩
  have hlb := Z.lt HB4.out
  have hq : Quill8 Z w w5 b newBook p D encNew := by
    refine ⟨Z.fr HB4.out hF5 (by simp), hL, Hgb.out.2, fun hm => ?_, newBook_fine⟩
    have := np b hm
    omega
  have hgD : ∀ k, (Value.slice (some ⟨g, 0, none⟩) b8L.length 16).ownBlock = some k → k ∉ b :: p :: D := by
    intro k hk
    have hk2 : g = k := by simpa [Value.ownBlock] using hk
    subst hk2
    intro hm
    rcases List.mem_cons.1 hm with hm | hm
    · have := Hgb.out.1; omega
    · have h1 := np _ hm
      have h2 := HM4.out.own.lt g rfl
      omega
  have hput := hq.put (some ⟨g, 0, none⟩) 16 b8L 2 (HM4.out.fr0 hF5).src (fun _ => hgD) (by decide) js8 i2 (by decide)
  rw [blk8.1, blk8.2.1, blk8.2.2, show b8L.length = 16 from rfl] at hput
  have HPut := Lib.hid hput; have HM6 := Lib.hid (HM4.out.fr0 hF5); have HgD := Lib.hid hgD
  clear hL hF5 np hlb hq hgD hput HB4 HM4 HF4
  go_wp2_with fail
  refine HPut.out.mono ?_
  rintro e w6 ⟨rfl, D6, hq6, hf6, hd6⟩
  have hS6 := HM6.out.src.fr hf6 HgD.out
  have HQ6 := Lib.hid hq6; have HS6 := Lib.hid hS6
  have hby := bytes_live8 w6 p D6 le8 hq6.li (by have := live8_n; omega)
  rw [show le8.n = bs8.length by unfold bs8; simp] at hby
  have hlen : 4 ≤ bs8.length ∧ bs8.length ≤ 800 := by
    have := live8_n
    unfold bs8
    simp
    omega
  change Calls _ _ _ _ fun r W' => ∃ A c, r = .returned (.slice A bs8.length c) ∧ Src W' (.slice A bs8.length c) (bs8.map B8) ∧ _ at hby
  obtain ⟨n, hnn⟩ : ∃ n, n = bs8.length := ⟨_, rfl⟩
  rw [← hnn] at hby hlen
  have HBy := Lib.hid hby; have Hnn := Lib.hid hnn; have Hlen := Lib.hid hlen
  clear hby hnn hlen
  clear hq6 hf6 hd6 hS6 HPut HM6 HgD
  go_wp2_with fail
  refine HBy.out.mono ?_
  rintro e w7 ⟨A, cc, rfl, hS, hL, hF7, -⟩
  have hO := Y.opens w7 A cc bs8 (by rw [← Hnn.out]; exact hS) (by rw [← Hnn.out]; exact Hlen.out.1) (by rw [← Hnn.out]; have := Hlen.out.2; omega)
  rw [← Hnn.out] at hO
  have HO := Lib.hid hO; have HS7 := Lib.hid (HS6.out.fr0 hF7); have HFL := Lib.hid hL.fr
  clear hS hL hF7 hO HBy HQ6 HS6
  go_wp2_with fail
  refine HO.out.mono ?_
  rintro e w8 ⟨y, K, rfl, hY, hF8, hy, hyK, hK⟩
  have HY := Lib.hid hY; have HS8 := Lib.hid (HS7.out.fr0 hF8); have HFL8 := Lib.hid (HFL.out.trans hF8 (by simp))
  have hyw : w.heap.size ≤ y ∧ g < y := by
    have h1 := HFL.out.size
    have h2 := src_lt HS7.out (by decide)
    have h3 : g < w7.heap.size := h2
    omega
  have Hyw := Lib.hid hyw
  clear hY hF8 hy hyK hK HO HS7 HFL hyw
  go_wp2_with fail
  refine (Z.new w8).mono ?_
  rintro e w9 ⟨o, rfl, ho, hF9, no⟩
  have hsep : o ∉ y :: K := fun hm => by
    have := Y.lt HY.out o hm
    omega
  obtain ⟨d, hgot, hdi, hdr⟩ := live8_got
  have hdec : (decOpen bs8).rest < 4294967296 ∧ 16777216 ≤ (decOpen bs8).r ∧ (decOpen bs8).r ≤ 4294967295 ∧ (decOpen bs8).i ≤ bs8.length := by
    refine ⟨?_, by decide, by decide, by rw [← Hnn.out]; exact Hlen.out.1⟩
    have h1 := valueOf_lt (bs8.take 4)
    have h2 : (bs8.take 4).length ≤ 4 := by simp; omega
    have h3 : 256 ^ (bs8.take 4).length ≤ 256 ^ 4 := Nat.pow_le_pow_right (by omega) h2
    show valueOf (bs8.take 4) < _
    omega
  have hget := Z.get w9 o newBook y K bs8 (decOpen bs8) 2 16 ho (Y.fr HY.out hF9 (by simp)) hsep newBook_fine hdec.1 hdec.2.1 hdec.2.2.1 hdec.2.2.2 (by rw [← Hnn.out]; have := Hlen.out.2; omega) i2 i16
  rw [hgot] at hget
  have HGet := Lib.hid hget; have HS9 := Lib.hid (HS8.out.fr0 hF9); have HF9 := Lib.hid (HFL8.out.trans hF9 (by simp))
  have hgoy : w.heap.size ≤ o ∧ g < o := by
    have h1 := HFL8.out.size
    have h2 : g < w8.heap.size := src_lt HS8.out (by decide)
    omega
  have Hgoy := Lib.hid hgoy; have Hdi := Lib.hid hdi; have Hdr := Lib.hid hdr
  clear hgoy hdi hdr
  clear hdec hget ho hF9 no hsep HY HS8 HFL8 hgot
  go_wp2_with fail
  refine HGet.out.mono ?_
  rintro e w10 ⟨⟨A9, c9, rfl, hs10, -⟩, -, hde, hf10⟩
  have hS10 := HS9.out.fr hf10 (fun k hk => by
    have hk2 : g = k := by simpa [Value.ownBlock] using hk
    subst hk2
    have := Hgoy.out.2; have := Hyw.out.2
    simp; omega)
  have hF10 : Fr [] w w10 := HF9.out.trans hf10 (fun x hx => .inr (by
    have := Hgoy.out.1; have := Hyw.out.1
    simp at hx
    omega))
  have hlv := Z.level w10 (-20) 17 (by omega) (by omega) i17 (by omega)
  rw [live8_ok.2.2.2] at hlv
  have HLv := Lib.hid hlv; have HS10 := Lib.hid hS10; have HR10 := Lib.hid hs10; have HD10 := Lib.hid hde; have HF10 := Lib.hid hF10
  rw [show b8L.length = 16 from rfl]
  clear hlv hS10 hs10 hde hF10 hf10 HGet HS9 HF9
  go_wp2_with fail
  refine HLv.out.mono ?_
  rintro e w11 ⟨rfl, hF11⟩
  have hsm := rsame7_any A9 c9 b8L (some ⟨g, 0, none⟩) 16 b8L w11 (HR10.out.fr0 hF11) (HS10.out.fr0 hF11) (by decide) (by decide)
  rw [show decide (b8L = b8L) = true by simp, show b8L.length = 16 from rfl] at hsm
  have HSm := Lib.hid hsm; have HD11 := Lib.hid (Y.fr HD10.out hF11 (by simp)); have HF11 := Lib.hid (HF10.out.trans hF11 (by simp))
  clear hsm hF11 HD10 HF10 HR10 HS10 HLv
  go_wp2_with fail
  refine HSm.out.mono ?_
  rintro e w12 ⟨rfl, hF12⟩
  have hE := Y.ends w12 y K bs8 d (Y.fr HD11.out hF12 (by simp))
  rw [if_pos ⟨Hdi.out, Hdr.out⟩] at hE
  have HE := Lib.hid hE; have HF12 := Lib.hid (HF11.out.trans hF12 (by simp))
  clear hE hF12 HD11 HF11 HSm
  go_wp2_with fail
  refine HE.out.mono ?_
  rintro e w13 ⟨rfl, m, hm13⟩
  have HF13 := Lib.hid (HF12.out.trans (by rw [hm13]; exact (Fr.refl [] _).drewN m : Fr [] w12 w13) (by simp))
  clear hm13 HE HF12
  go_wp2_with fail
  go_ret
  exact ⟨rfl, HF13.out⟩
end Go.Proofs.Ytendcmdpmohacaa

/-
  Closed facts of this program that every row asks; no condition.
-/
namespace Go.Proofs.Ytendcmdpmohacaa
theorem own_knob : ownKnob Try.prog.godebug = none := by kernel_rfl
theorem laid_out : laidOutB Try.prog = true := by kernel_rfl
end Go.Proofs.Ytendcmdpmohacaa

/-
  A list of rows of numbers as an argument. No condition.
-/
namespace Go.Proofs.Ytendcmdpmohacaa
open Go.ChangeShapes Go.WideShapes Go.ChangeAt Go.RowKit Go.Deep

/-- A row: where it lies, its room, its numbers. -/
abbrev RowI := Option Addr × Nat × List Int
def rowV (r : RowI) : Value := .slice r.1 r.2.2.length r.2.1
/-- A row whose numbers are there. -/
structure RowOk (w : World) (r : RowI) : Prop where
  src : Src w (rowV r) (r.2.2.map I64)
  js : Js r.2.2
  le : r.2.2.length ≤ maxLen
/-- Rows of numbers, as an argument. -/
structure NumRows (w : World) (A : Option Addr) (len cap : Nat) (L : List RowI) : Prop where
  count : L.length = len
  most : len ≤ maxLen
  src : Src w (.slice A len cap) (L.map rowV)
  row : ∀ r ∈ L, RowOk w r
theorem RowOk.fr0 {w w' : World} {r : RowI} (h : RowOk w r) (hf : Fr [] w w') : RowOk w' r := ⟨h.src.fr0 hf, h.js, h.le⟩
theorem NumRows.fr0 {w w' : World} {A : Option Addr} {len cap : Nat} {L : List RowI} (h : NumRows w A len cap L) (hf : Fr [] w w') : NumRows w' A len cap L :=
  ⟨h.count, h.most, h.src.fr0 hf, fun r hr => (h.row r hr).fr0 hf⟩
theorem NumRows.at_ {w : World} {A : Option Addr} {len cap i : Nat} {L : List RowI} {r : RowI} (h : NumRows w A len cap L) (hr : L[i]? = some r) : ∃ ad, A = some ad ∧ w.cell? (ad.add i) = some (.slice r.1 r.2.2.length r.2.1) ∧ RowOk w r := by
  obtain ⟨ad, h1, h2⟩ := h.src.cellAt (f := rowV) hr
  exact ⟨ad, h1, h2, h.row r (List.mem_of_getElem? hr)⟩
theorem RowOk.lt {w : World} {r : RowI} (h : RowOk w r) (hx : 0 < r.2.2.length) : ∀ k, (rowV r).ownBlock = some k → k < w.heap.size := by
  intro k hk
  obtain ⟨a, ha, hc⟩ := h.src.num (k := 0) hx
  have h1 := World.block_lt_of_cell? _ _ hc
  rw [addr_block] at h1
  unfold rowV at hk
  rw [ha] at hk
  injection hk with hk
  rw [← hk]
  exact h1
section
variable {H : Type} {enc : TypeId × Value → H} {w : World} {base : Nat} {spare : Nat → Bool} {held : Bool}
theorem open_rows {n : Nat} {v : Value} {d : DataW H} {ps : List MemPlace} (h : DataW.trod enc Try.prog w base spare held n 34 [v] = some (d, ps)) :
    ∃ (A : Option Addr) (len cap : Nat) (L : List RowI), v = .slice A len cap ∧ NumRows w A len cap L := by
  have : Inhabited {r : RowI // RowOk w r} := ⟨⟨(none, 0, []), .inl ⟨rfl, rfl⟩, fun i hi => by simp at hi, by simp⟩⟩
  obtain ⟨A, len, cap, l, hv, hl, hm, hs⟩ := open_cells (α := {r : RowI // RowOk w r}) (fun r => rowV r.1) Try.underlying34 (by kernel_rfl) (fun n' cs x hx => by
    have hcs : ∃ u, cs = [u] := by
      rcases DataW.trod_slice Try.underlying29 hx with ⟨h1, -⟩ | ⟨a, l, c, _, _, _, _, h1, -⟩
      · exact ⟨_, h1⟩
      · exact ⟨_, h1⟩
    obtain ⟨u, rfl⟩ := hcs
    obtain ⟨B, m, c, b, rfl, hb, hmb, hsb, hjb⟩ := open_ints (d := x.1) (ps := x.2) hx
    subst hb
    exact ⟨⟨(B, c, b), hsb, hjb, hmb⟩, rfl⟩) h
  refine ⟨A, len, cap, l.map (·.1), hv, by rw [List.length_map, hl], hm, ?_, fun r hr => ?_⟩
  · rw [List.map_map]
    exact hs
  · obtain ⟨x, -, rfl⟩ := List.mem_map.1 hr
    exact x.2
end
end Go.Proofs.Ytendcmdpmohacaa
