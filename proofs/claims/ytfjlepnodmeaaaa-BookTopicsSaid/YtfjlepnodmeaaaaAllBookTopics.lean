/-
  The law BookTopics (topics are apart) answers true whatever its input, and leaves its arguments as they were; no condition.
-/
import Derived.Test.YtfjlepnodmeaaaaAll1
import Derived.Test.YtfjlepnodmeaaaaAll2
import Derived.Test.YtfjlepnodmeaaaaAll3
/-
  The law BookTopics answers true whatever its input, out of the contracts; no condition.
-/
namespace Go.Proofs.Ytfjlepnodmeaaaa
open Go.RowKit

/-- Three books, two encoders, all apart; two of the books, and the encoders, alike. -/
structure Trio {X : EncSpec} {Y : DecSpec} (Z : BookSpec X Y) (w0 w : World) (b z c : Nat) (B : Chs) (p : Nat) (D : List Nat) (m : Nat) (E : List Nat) (e : Enc) : Prop where
  a : Quill Z w0 w b B p D e
  r : Quill Z w0 w z B m E e
  ck : Z.Bo w c newBook
  sep : ∀ k ∈ b :: p :: D, k ∉ z :: m :: E
  ca : c ∉ b :: p :: D
  cr : c ∉ z :: m :: E
  nc : w0.heap.size ≤ c
section
variable {X : EncSpec} {Y : DecSpec} {Z : BookSpec X Y} {w0 w w' w2 : World} {b z c : Nat} {B : Chs} {p : Nat} {D : List Nat} {m : Nat} {E : List Nat} {e : Enc} {a : Act5} {r : Ending}
theorem Trio.fr0 (h : Trio Z w0 w b z c B p D m E e) (hf : Fr [] w w') : Trio Z w0 w' b z c B p D m E e :=
  ⟨h.a.fr0 hf, h.r.fr0 hf, Z.fr h.ck hf (by simp), h.sep, h.ca, h.cr, h.nc⟩
/-- Behind the first book's act. -/
structure TrioA (Z : BookSpec X Y) (w0 w : World) (b z c : Nat) (B B' : Chs) (p : Nat) (D : List Nat) (m : Nat) (E : List Nat) (e e' : Enc) : Prop where
  a : Quill Z w0 w b B' p D e'
  r : Quill Z w0 w z B m E e
  ck : Z.Bo w c newBook
  sep : ∀ k ∈ b :: p :: D, k ∉ z :: m :: E
  ca : c ∉ b :: p :: D
  cr : c ∉ z :: m :: E
  nc : w0.heap.size ≤ c
theorem Trio.putA (h : Trio Z w0 w b z c B p D m E e) (hp : QuillPost Z w0 w b B p D e a r w') :
    r = .returned (.int .i64 (errOf a)) ∧ ∃ D', TrioA Z w0 w' b z c B (bkAct a B) p D' m E e (enAct a B e) := by
  obtain ⟨hr, D', hq, hf, hd, -⟩ := hp
  have hlr := h.r.lt
  have hlc := Z.lt h.ck
  refine ⟨hr, D', hq, h.r.frS hf (fun k hk hm => h.sep k hm hk) (fun x hx => h.a.news x hx), Z.fr h.ck hf h.ca, fun k hk hm => ?_, fun hm => ?_, h.cr, h.nc⟩
  · rcases List.mem_cons.1 hk with rfl | hk
    · exact h.sep _ (List.mem_cons_self ..) hm
    · rcases List.mem_cons.1 hk with rfl | hk
      · exact h.sep _ (List.mem_cons_of_mem _ (List.mem_cons_self ..)) hm
      · rcases hd k hk with h1 | h1
        · exact h.sep k (List.mem_cons_of_mem _ (List.mem_cons_of_mem _ h1)) hm
        · have := hlr k hm; omega
  · rcases List.mem_cons.1 hm with rfl | hm
    · exact h.ca (List.mem_cons_self ..)
    · rcases List.mem_cons.1 hm with rfl | hm
      · exact h.ca (List.mem_cons_of_mem _ (List.mem_cons_self ..))
      · rcases hd c hm with h1 | h1
        · exact h.ca (List.mem_cons_of_mem _ (List.mem_cons_of_mem _ h1))
        · omega
theorem TrioA.putR (h : TrioA Z w0 w b z c B (bkAct a B) p D m E e (enAct a B e)) (hp : QuillPost Z w0 w z B m E e a r w') :
    r = .returned (.int .i64 (errOf a)) ∧ ∃ E', Trio Z w0 w' b z c (bkAct a B) p D m E' (enAct a B e) := by
  obtain ⟨hr, E', hq, hf, hd, -⟩ := hp
  have hla := h.a.lt
  have hlc := Z.lt h.ck
  refine ⟨hr, E', h.a.frS hf (fun k hk hm => h.sep k hk hm) (fun x hx => h.r.news x hx), hq, Z.fr h.ck hf h.cr, fun k hk hm => ?_, h.ca, fun hm => ?_, h.nc⟩
  · rcases List.mem_cons.1 hm with rfl | hm
    · exact h.sep _ hk (List.mem_cons_self ..)
    · rcases List.mem_cons.1 hm with rfl | hm
      · exact h.sep _ hk (List.mem_cons_of_mem _ (List.mem_cons_self ..))
      · rcases hd k hm with h1 | h1
        · exact h.sep k hk (List.mem_cons_of_mem _ (List.mem_cons_of_mem _ h1))
        · have := hla k hk; omega
  · rcases List.mem_cons.1 hm with rfl | hm
    · exact h.cr (List.mem_cons_self ..)
    · rcases List.mem_cons.1 hm with rfl | hm
      · exact h.cr (List.mem_cons_of_mem _ (List.mem_cons_self ..))
      · rcases hd c hm with h1 | h1
        · exact h.cr (List.mem_cons_of_mem _ (List.mem_cons_of_mem _ h1))
        · omega
/-- The new book with the second encoder. -/
theorem TrioA.third {B' : Chs} {e' : Enc} (h : TrioA Z w0 w b z c B B' p D m E e e') : Quill Z w0 w c newBook m E e :=
  ⟨h.ck, h.r.li, h.nc, fun hm => h.cr (List.mem_cons_of_mem _ hm), newBook_fine⟩
theorem TrioA.last {B' : Chs} {e' : Enc} (h : TrioA Z w0 w b z c B B' p D m E e e') (hp : QuillPost Z w0 w c newBook m E e a r w') :
    r = .returned (.int .i64 (errOf a)) ∧ ∃ E', Live X w0 w' p D e' ∧ Live X w0 w' m E' (enAct a newBook e) := by
  obtain ⟨hr, E', hq, hf, hd, -⟩ := hp
  refine ⟨hr, E', (h.a.frS hf (fun k hk hm => ?_) (fun x hx => ?_)).li, hq.li⟩
  · rcases List.mem_cons.1 hm with rfl | hm
    · exact h.ca hk
    · exact h.sep k hk (List.mem_cons_of_mem _ hm)
  · rcases List.mem_cons.1 hx with rfl | hx
    · exact h.nc
    · exact h.r.news x (List.mem_cons_of_mem _ hx)
end

/-- The topic s has the chances of a new book. -/
def Fresh (s : Int) (B : Chs) : Prop := ∀ t : Nat, s = (t : Int) → SameAt t B newBook
theorem fresh_new (s : Int) : Fresh s newBook := fun _ _ _ _ => rfl
theorem fresh_act {s : Int} {B : Chs} {a : Act5} (h : Fresh s B) (ha : a.2.1 ≠ s) : Fresh s (bkAct a B) := by
  intro t ht
  unfold bkAct
  cases hl : evsOf a with
  | none => exact h t ht
  | some l =>
    have h1 := (evsOf_topic hl).2
    intro i hi
    exact (learned_other (t := topicOf a) (s := t) (fun e => ha (by rw [h1, ht, e])) l B (actEvs_in hl) i hi).trans (h t ht i hi)
theorem fresh_code {B : Chs} {a : Act5} {e : Enc} (h : Fresh a.2.1 B) : enAct a B e = enAct a newBook e := by
  unfold enAct
  cases hl : evsOf a with
  | none => rfl
  | some l =>
    have h1 := (evsOf_topic hl).2
    simp only
    rw [track_same l B newBook (actEvs_in hl) (h _ h1)]

attribute [local go_sem ↓] cv_rule

set_option maxRecDepth 100000 in
set_option maxHeartbeats 8000000 in
theorem topics5_law {X : EncSpec} {Y : DecSpec} (Z : BookSpec X Y) (A : Option Addr) (len cap : Nat) (acts : List Act5) (last : Act5) (w : World) (hA : Acts5 w A len acts) (hm : len ≤ 9223372036854775807) (hl : InA last) :
    Calls Try.prog 6 #[.slice A len cap, vAct last] w fun e w' => e = .returned (.bool true) ∧ Fr [] w w' := by
  have HA := Lib.hid hA; clear hA
  have HPl : Hid (∀ w0 W b B p D e, Quill Z w0 W b B p D e → e.n ≤ 50000 → Calls Try.prog 13 #[vAct last, pt b, pt p] W (QuillPost Z w0 W b B p D e last)) := Lib.hid fun w0 W b B p D e h hn => h.put hl hn
  have HLl := Lib.hid hl
  obtain ⟨E, hE⟩ : ∃ E, E = errOf last := ⟨_, rfl⟩
  have HE := Lib.hid hE
  clear hl hE
  obtain ⟨lk, lt, ln, lx⟩ := last
  unfold vAct at HPl ⊢
  simp only at HPl ⊢
  go_enter Try.func6, Try.ntmps6
  go_wp2_with fail
  generalize hw : w.alloc (.cells #[.int .i64 lk, .int .i64 lt, .int .i64 ln, .int .i64 lx] 33) = w1
  have hB : Blk w1 w.heap.size 33 #[.int .i64 lk, .int .i64 lt, .int .i64 ln, .int .i64 lx] := by rw [← hw]; exact Blk.new _ _ _
  have hF : Fr [] w w1 := by rw [← hw]; exact (Fr.refl _ _).alloc _
  generalize w.heap.size = g at hB ⊢
  have HB := Lib.hid hB; have HF := Lib.hid hF
  clear hB hF hw
  refine (Z.new w1).mono ?_
  rintro e w2 ⟨b, rfl, hb, hF2, nb⟩
  have Hb := Lib.hid hb; have HF2 := Lib.hid hF2; have Nb := Lib.hid nb
  clear hb hF2 nb
  go_wp2_with fail
  refine (new_live (X := X) w2 HF2.out).mono ?_
  rintro e w3 ⟨p, D, rfl, hL, hF3, np⟩
  have hq : Quill Z w1 w3 b newBook p D encNew := ⟨Z.fr Hb.out hF3 (by simp), hL, Nb.out, fun hm => by have := np b hm; have := Z.lt Hb.out; omega, newBook_fine⟩
  have HQ := Lib.hid hq
  clear hL hF3 np hq Hb HF2 Nb
  go_wp2_with fail
  refine (new_live (X := X) w3 HQ.out.li.fr).mono ?_
  rintro e w4 ⟨m, E2, rfl, hL, hF4, nm⟩
  have hlq := HQ.out.lt
  have HQ4 := Lib.hid (HQ.out.fr0 hF4); have HL4 := Lib.hid hL
  have hs4 : ∀ k ∈ m :: E2, k ∉ b :: p :: D := fun k hk hm => by have := hlq k hm; have := nm k hk; omega
  have Hs4 := Lib.hid hs4
  clear hL hF4 nm hlq hs4 HQ
  go_wp2_with fail
  refine (Z.new w4).mono ?_
  rintro e w5 ⟨c, rfl, hc, hF5, nc⟩
  have hlq := HQ4.out.lt
  have hlm := X.lt HL4.out.en
  have hc1 : c ∉ b :: p :: D := fun hm => by have := hlq c hm; omega
  have hc2 : c ∉ m :: E2 := fun hm => by have := hlm c hm; omega
  have hc3 : w1.heap.size ≤ c := Nat.le_trans HQ4.out.li.fr.size nc
  have HQ5 := Lib.hid (HQ4.out.fr0 hF5); have HL5 := Lib.hid (HL4.out.fr0 hF5); have HC5 := Lib.hid hc; have Hc := Lib.hid (And.intro hc1 (And.intro hc2 hc3))
  clear hc hF5 nc hlq hlm hc1 hc2 hc3 HQ4 HL4
  go_wp2_with fail
  refine (Z.new w5).mono ?_
  rintro e w6 ⟨z, rfl, hz, hF6, nz⟩
  have hT : Trio Z w1 w6 b z c newBook p D m E2 encNew := by
    have hlq := HQ5.out.lt
    have hlm := X.lt HL5.out.en
    have hlc := Z.lt HC5.out
    have hsz := HQ5.out.li.fr.size
    refine ⟨HQ5.out.fr0 hF6, ⟨hz, HL5.out.fr0 hF6, by omega, fun hm => by have := hlm z hm; omega, newBook_fine⟩, Z.fr HC5.out hF6 (by simp), fun k hk hm => ?_, Hc.out.1, fun hm => ?_, Hc.out.2.2⟩
    · rcases List.mem_cons.1 hm with rfl | hm
      · have := hlq _ hk; omega
      · exact Hs4.out k hm hk
    · rcases List.mem_cons.1 hm with rfl | hm
      · omega
      · exact Hc.out.2.1 hm
  have HT := Lib.hid hT
  clear hT hz hF6 nz HQ5 HL5 HC5 Hc Hs4
  go_wp2_with fail
  go_loopw [10] (fun s10 wr => ∃ (i : Nat) (B : Chs) (D E : List Nat) (e : Enc), i ≤ len ∧ i ≤ 100 ∧ e.n ≤ 4 + 42 * i ∧ s10 = .int .i64 (i : Int) ∧ Trio Z w1 wr b z c B p D m E e ∧ Fresh lt B) (fun s10 _ => 100 - (intOf s10).toNat)
  case atStart => exact ⟨0, newBook, D, E2, encNew, by omega, by omega, by decide, rfl, HT.out, fresh_new _⟩
  case round =>
    obtain ⟨i, B, D, E1, e, hi1, hi2, hn, rfl, hT, hfr⟩ := hrel
    have HTr := Lib.hid hT; have HFr := Lib.hid hfr
    clear hT hfr HT
    have hbl := (HB.out.fr HTr.out.a.li.fr (by simp)).drew
    have l0 := hbl.cell 0
    have l1 := hbl.cell 1
    have l2 := hbl.cell 2
    have l3 := hbl.cell 3
    simp at l0 l1 l2 l3
    clear hbl
    by_cases hlt2 : i < len ∧ i < 100
    · obtain ⟨hl1, hl2⟩ := hlt2
      have eg1 : decide (i < len) = true := by simpa using hl1
      have eg2 : decide ((i : Int) < 100) = true := by simp; omega
      obtain ⟨a, ha⟩ : ∃ x, acts[i]? = some x := ⟨_, List.getElem?_eq_getElem (by have := HA.out.1; omega)⟩
      have hcell : ∀ W, Fr [] w W → InA a ∧ ∃ g o, A = some ⟨g, o, none⟩ ∧ ActAt W g (o + i * 4) a := fun W hF => (HA.out.fr hF).2 i a ha
      obtain ⟨hia, g', o, rfl, -⟩ := hcell w (Fr.refl _ _)
      have hcells : ∀ W, Fr [] w1 W → ActAt W g' (o + i * 4) a := by
        intro W hF
        obtain ⟨-, g'', o', r1, h1⟩ := hcell W (HF.out.trans hF (by simp))
        have r2 := Option.some.inj r1
        injection r2 with r3 r4
        subst r3 r4
        exact h1
      have hne := enAct_n a B e
      have HP : Hid (∀ W b p D e, Quill Z w1 W b B p D e → e.n ≤ 50000 → Calls Try.prog 13 #[vAct a, pt b, pt p] W (QuillPost Z w1 W b B p D e a)) := Lib.hid fun W b p D e h hn => h.put hia hn
      have Hcells := Lib.hid hcells
      obtain ⟨E0, hE0⟩ : ∃ E0, E0 = errOf a := ⟨_, rfl⟩
      have HE0 := Lib.hid hE0
      have eE : (E0 != E0) = false := by simp
      have hfa : a.2.1 ≠ lt → Fresh lt (bkAct a B) := fun h => fresh_act HFr.out h
      have Hfa := Lib.hid hfa
      clear hcell hcells ha hia hE0 hfa
      obtain ⟨k, t, n, x⟩ := a
      unfold vAct at HP
      simp only at HP
      obtain ⟨c0, c1, c2, c3⟩ := Hcells.out _ HTr.out.a.li.fr
      simp only at c0 c1 c2 c3
      by_cases htt : t = lt
      · have et : (t == lt) = true := by simp [htt]
        clear htt
        go_upto_region 11 with fail
        go_quiet (fail)
        have hT2 := HTr.out.fr0 ((Fr.refl [] wr).drewN nq)
        have HT2 := Lib.hid hT2
        clear hT2
        go_wp2_with fail
        exact ⟨⟨i + 1, B, D, E1, e, by omega, by omega, by omega, by simp, HT2.out, HFr.out⟩, by simp [intOf]; omega⟩
      · have et : (t == lt) = false := by simp [htt]
        have Htt := Lib.hid htt
        clear htt
        go_upto_region 11 with fail
        go_quiet (fail)
        have hT2 := HTr.out.fr0 ((Fr.refl [] wr).drewN nq).drew
        have HT2 := Lib.hid hT2
        clear hT2
        generalize wr.drewN nq = wq at HT2 ⊢
        obtain ⟨d0, d1, d2, d3⟩ := Hcells.out _ HT2.out.a.li.fr
        simp only at d0 d1 d2 d3
        clear c0 c1 c2 c3 l0 l1 l2 l3
        go_upto_region 12 with fail
        refine wp_region_held_drew (S := fun W => W.cell? ⟨g', o + i * 4, none⟩ = some (.int .i64 k) ∧ W.cell? ⟨g', o + i * 4 + 1, none⟩ = some (.int .i64 t) ∧ W.cell? ⟨g', o + i * 4 + 2, none⟩ = some (.int .i64 n) ∧ W.cell? ⟨g', o + i * 4 + 3, none⟩ = some (.int .i64 x)) (by kernel_rfl) ?_ (fun hHeld => ?_)
        · (repeat' (first | trivial | assumption | refine ⟨?_, ?_⟩))
        refine wpAnyH_pick 0 (v := ?_) rfl (by kernel_rfl) (by kernel_rfl) (by kernel_rfl) (fun _ _ _ h => h) (by assumption) (by rfl) ?_ ?_
        rotate_left
        · (intro w hSw; (try dsimp only at hSw); go_simp) <;> (with_reducible rfl)
        (try simp only [Act.put, List.setIfInBounds_toArray, List.set_cons_zero, List.set_cons_succ])
        refine wpAnyH_pick 1 (v := ?_) rfl (by kernel_rfl) (by kernel_rfl) (by kernel_rfl) (fun _ _ _ h => h) (by assumption) (by rfl) ?_ ?_
        rotate_left
        · (intro w hSw; (try dsimp only at hSw); go_simp) <;> (with_reducible rfl)
        (try simp only [Act.put, List.setIfInBounds_toArray, List.set_cons_zero, List.set_cons_succ])
        refine wpAnyH_pick 2 (v := ?_) rfl (by kernel_rfl) (by kernel_rfl) (by kernel_rfl) (fun _ _ _ h => h) (by assumption) (by rfl) ?_ ?_
        rotate_left
        · (intro w hSw; (try dsimp only at hSw); go_simp) <;> (with_reducible rfl)
        (try simp only [Act.put, List.setIfInBounds_toArray, List.set_cons_zero, List.set_cons_succ])
        refine wpAnyH_pick 3 (v := ?_) rfl (by kernel_rfl) (by kernel_rfl) (by kernel_rfl) (fun _ _ _ h => h) (by assumption) (by rfl) ?_ ?_
        rotate_left
        · (intro w hSw; (try dsimp only at hSw); go_simp) <;> (with_reducible rfl)
        (try simp only [Act.put, List.setIfInBounds_toArray, List.set_cons_zero, List.set_cons_succ])
        refine wpAnyH_pick 4 (v := ?_) rfl (by kernel_rfl) (by kernel_rfl) (by kernel_rfl) (fun _ _ _ h => h) (by assumption) (by rfl) ?_ ?_
        rotate_left
        · (intro w hSw; (try dsimp only at hSw); go_simp) <;> (with_reducible rfl)
        (try simp only [Act.put, List.setIfInBounds_toArray, List.set_cons_zero, List.set_cons_succ])
        refine wpAnyH_pick 5 (v := ?_) rfl (by kernel_rfl) (by kernel_rfl) (by kernel_rfl) (fun _ _ _ h => h) (by assumption) (by rfl) ?_ ?_
        rotate_left
        · (intro w hSw; (try dsimp only at hSw); go_simp) <;> (with_reducible rfl)
        (try simp only [Act.put, List.setIfInBounds_toArray, List.set_cons_zero, List.set_cons_succ])
        refine wpAnyH_pick 7 (v := ?_) rfl (by kernel_rfl) (by kernel_rfl) (by kernel_rfl) (fun _ _ _ h => h) (by assumption) (by rfl) ?_ ?_
        rotate_left
        · (intro w hSw; (try dsimp only at hSw); go_simp) <;> (with_reducible rfl)
        (try simp only [Act.put, List.setIfInBounds_toArray, List.set_cons_zero, List.set_cons_succ])
        refine wpAnyH_pick 8 (v := ?_) rfl (by kernel_rfl) (by kernel_rfl) (by kernel_rfl) (fun _ _ _ h => h) (by assumption) (by rfl) ?_ ?_
        rotate_left
        · (intro w hSw; (try dsimp only at hSw); go_simp) <;> (with_reducible rfl)
        (try simp only [Act.put, List.setIfInBounds_toArray, List.set_cons_zero, List.set_cons_succ])
        refine wpAnyH_pick 9 (v := ?_) rfl (by kernel_rfl) (by kernel_rfl) (by kernel_rfl) (fun _ _ _ h => h) (by assumption) (by rfl) ?_ ?_
        rotate_left
        · (intro w hSw; (try dsimp only at hSw); go_simp) <;> (with_reducible rfl)
        (try simp only [Act.put, List.setIfInBounds_toArray, List.set_cons_zero, List.set_cons_succ])
        refine wpAnyH_pick 10 (v := ?_) rfl (by kernel_rfl) (by kernel_rfl) (by kernel_rfl) (fun _ _ _ h => h) (by assumption) (by rfl) ?_ ?_
        rotate_left
        · (intro w hSw; (try dsimp only at hSw); go_simp) <;> (with_reducible rfl)
        (try simp only [Act.put, List.setIfInBounds_toArray, List.set_cons_zero, List.set_cons_succ])
        refine wpAnyH_pick 11 (v := ?_) rfl (by kernel_rfl) (by kernel_rfl) (by kernel_rfl) (fun _ _ _ h => h) (by assumption) (by rfl) ?_ ?_
        rotate_left
        · (intro w hSw; (try dsimp only at hSw); go_simp) <;> (with_reducible rfl)
        (try simp only [Act.put, List.setIfInBounds_toArray, List.set_cons_zero, List.set_cons_succ])
        refine wpAnyH_pick 12 (v := ?_) rfl (by kernel_rfl) (by kernel_rfl) (by kernel_rfl) (fun _ _ _ h => h) (by assumption) (by rfl) ?_ ?_
        rotate_left
        · (intro w hSw; (try dsimp only at hSw); go_simp) <;> (with_reducible rfl)
        (try simp only [Act.put, List.setIfInBounds_toArray, List.set_cons_zero, List.set_cons_succ])
        refine wpAnyH_ready (rs := [6]) (by kernel_rfl) (by simp) ?_
        refine AllReadyH_pick rfl (fun K hK => ?_) (AllReadyH.nil)
        go_simp
        refine (HP.out _ b p D e HT2.out.a (by omega)).mono ?_
        rintro r1 wP hP
        obtain ⟨rfl, D', hA⟩ := HT2.out.putA hP
        rw [← HE0.out]
        obtain ⟨f0, f1, f2, f3⟩ := Hcells.out _ hA.a.li.fr
        simp only at f0 f1 f2 f3
        have HTA := Lib.hid hA
        clear hP hA
        go_wp2_with fail
        refine hK.out _ _ ?_ (fun hHeld => ?_)
        · (repeat' (first | trivial | assumption | refine ⟨?_, ?_⟩))
        clear hK K
        (try simp only [Act.put, List.setIfInBounds_toArray, List.set_cons_zero, List.set_cons_succ])
        refine wpAnyH_ready (rs := [13]) (by kernel_rfl) (by simp) ?_
        refine AllReadyH_pick rfl (fun K hK => ?_) (AllReadyH.nil)
        go_simp
        refine (HP.out _ z m E1 e HTA.out.r (by omega)).mono ?_
        rintro r1 wR hR
        obtain ⟨rfl, E', hB⟩ := HTA.out.putR hR
        rw [← HE0.out]
        obtain ⟨h0, h1, h2, h3⟩ := Hcells.out _ hB.a.li.fr
        simp only at h0 h1 h2 h3
        have HTB := Lib.hid hB
        clear hR hB
        go_wp2_with fail
        refine hK.out _ _ ?_ (fun hHeld => ?_)
        · (repeat' (first | trivial | assumption | refine ⟨?_, ?_⟩))
        clear hK K
        (try simp only [Act.put, List.setIfInBounds_toArray, List.set_cons_zero, List.set_cons_succ])
        refine wpAnyH_pick 14 (v := ?_) rfl (by kernel_rfl) (by kernel_rfl) (by kernel_rfl) (fun _ _ _ h => h) (by assumption) (by rfl) ?_ ?_
        rotate_left
        · (intro w hSw; (try dsimp only at hSw); go_simp) <;> (with_reducible rfl)
        (try simp only [Act.put, List.setIfInBounds_toArray, List.set_cons_zero, List.set_cons_succ])
        refine wpAnyH_done (by kernel_rfl) ?_ _
        skip
        go_wp2_with fail
        exact ⟨⟨i + 1, _, D', E', _, by omega, by omega, by omega, by simp, HTB.out, Hfa.out Htt.out⟩, by simp [intOf]; omega⟩
    · have hex : (decide (i < len) = false) ∨ (decide (i < len) = true ∧ decide ((i : Int) < 100) = false) := by
        by_cases h1 : i < len
        · exact .inr ⟨by simpa using h1, by simp; omega⟩
        · exact .inl (by simpa using h1)
      have HPb := Lib.hid (HPl.out w1 wr b B p D e HTr.out.a (by omega))
      have hne := enAct_n (lk, lt, ln, lx) B e
      have hcode := fresh_code (a := (lk, lt, ln, lx)) (e := e) HFr.out
      have Hcode := Lib.hid hcode
      have hen : e.n ≤ 50000 := by omega
      clear hcode hlt2 hi1 hi2
      rcases hex with eg1 | ⟨eg1, eg2⟩
      case' inl => go_upto_region 14 with fail
      case' inr => go_upto_region 14 with fail
      all_goals
        go_wp2_with fail
        refine HPb.out.mono ?_
        rintro r1 w7 hP
        obtain ⟨rfl, D', hA⟩ := HTr.out.putA hP
        rw [← HE.out]
        have hbl := HB.out.fr hA.a.li.fr (by simp)
        have k0 := hbl.cell 0
        have k1 := hbl.cell 1
        have k2 := hbl.cell 2
        have k3 := hbl.cell 3
        simp at k0 k1 k2 k3
        have HTA := Lib.hid hA
        have HPc := Lib.hid (HPl.out w1 w7 c newBook m E1 e hA.third hen)
        clear hP hA hbl l0 l1 l2 l3
        go_wp2_with fail
        refine HPc.out.mono ?_
        rintro r1 w8 hP
        obtain ⟨rfl, E', hX, hY⟩ := HTA.out.last hP
        rw [← HE.out]
        rw [← Hcode.out] at hY
        obtain ⟨e', he'⟩ : ∃ e', e' = enAct (lk, lt, ln, lx) B e := ⟨_, rfl⟩
        rw [← he'] at hX hY
        have hen' : e'.n ≤ 60000 := by rw [he']; omega
        have HX := Lib.hid (hX.fr0 (Fr.refl [] w8).drew); have HY := Lib.hid (hY.fr0 (Fr.refl [] w8).drew)
        obtain ⟨bs, hbs⟩ : ∃ bs, bs = bytesOf e'.n e'.v := ⟨_, rfl⟩
        have HBy : Hid (∀ W p D, Live X w1 W p D e' → Calls Try.prog 16 #[pt p] W fun r W' => ∃ u, r = .returned u ∧ Src W' u (bs.map B8) ∧ Live X w1 W' p D e' ∧ Fr [] W W') := Lib.hid fun W p D hW => by
          refine (bytes_live W p D e' hW (by omega)).mono ?_
          rintro r W' ⟨A, c, rfl, hS, hL, hF⟩
          exact ⟨_, rfl, by rw [hbs]; exact hS, hL, hF⟩
        clear hP hX hY he' hbs HPb HPc HTA k0 k1 k2 k3 hne Hcode
        go_upto_region 16 with fail
        refine wp_region_held_drew (S := fun _ => True) (by kernel_rfl) ?_ (fun hHeld => ?_)
        · trivial
        refine wpAnyH_ready (rs := [0]) (by kernel_rfl) (by simp) ?_
        refine AllReadyH_pick rfl (fun K hK => ?_) (AllReadyH.nil)
        go_simp
        refine (alive5_any Z _).mono ?_
        rintro r1 wL ⟨rfl, hFL⟩
        have HX2 := Lib.hid (HX.out.fr0 hFL); have HY2 := Lib.hid (HY.out.fr0 hFL)
        clear hFL
        go_wp2_with fail
        refine hK.out _ _ ?_ (fun hHeld => ?_)
        · trivial
        clear hK K
        (try simp only [Act.put, List.setIfInBounds_toArray, List.set_cons_zero, List.set_cons_succ])
        refine wpAnyH_pick 1 (v := ?_) rfl (by kernel_rfl) (by kernel_rfl) (by kernel_rfl) (fun _ _ _ h => h) (by assumption) (by rfl) ?_ ?_
        rotate_left
        · (intro w hSw; (try dsimp only at hSw); go_simp) <;> (with_reducible rfl)
        (try simp only [Act.put, List.setIfInBounds_toArray, List.set_cons_zero, List.set_cons_succ])
        refine wpAnyH_pick 2 (v := ?_) rfl (by kernel_rfl) (by kernel_rfl) (by kernel_rfl) (fun _ _ _ h => h) (by assumption) (by rfl) ?_ ?_
        rotate_left
        · (intro w hSw; (try dsimp only at hSw); go_simp) <;> (with_reducible rfl)
        (try simp only [Act.put, List.setIfInBounds_toArray, List.set_cons_zero, List.set_cons_succ])
        refine wpAnyH_pick 3 (v := ?_) rfl (by kernel_rfl) (by kernel_rfl) (by kernel_rfl) (fun _ _ _ h => h) (by assumption) (by rfl) ?_ ?_
        rotate_left
        · (intro w hSw; (try dsimp only at hSw); go_simp) <;> (with_reducible rfl)
        (try simp only [Act.put, List.setIfInBounds_toArray, List.set_cons_zero, List.set_cons_succ])
        refine wpAnyH_pick 4 (v := ?_) rfl (by kernel_rfl) (by kernel_rfl) (by kernel_rfl) (fun _ _ _ h => h) (by assumption) (by rfl) ?_ ?_
        rotate_left
        · (intro w hSw; (try dsimp only at hSw); go_simp) <;> (with_reducible rfl)
        (try simp only [Act.put, List.setIfInBounds_toArray, List.set_cons_zero, List.set_cons_succ])
        refine wpAnyH_pick 5 (v := ?_) rfl (by kernel_rfl) (by kernel_rfl) (by kernel_rfl) (fun _ _ _ h => h) (by assumption) (by rfl) ?_ ?_
        rotate_left
        · (intro w hSw; (try dsimp only at hSw); go_simp) <;> (with_reducible rfl)
        (try simp only [Act.put, List.setIfInBounds_toArray, List.set_cons_zero, List.set_cons_succ])
        refine wpAnyH_pick 6 (v := ?_) rfl (by kernel_rfl) (by kernel_rfl) (by kernel_rfl) (fun _ _ _ h => h) (by assumption) (by rfl) ?_ ?_
        rotate_left
        · (intro w hSw; (try dsimp only at hSw); go_simp) <;> (with_reducible rfl)
        (try simp only [Act.put, List.setIfInBounds_toArray, List.set_cons_zero, List.set_cons_succ])
        refine wpAnyH_pick 7 (v := ?_) rfl (by kernel_rfl) (by kernel_rfl) (by kernel_rfl) (fun _ _ _ h => h) (by assumption) (by rfl) ?_ ?_
        rotate_left
        · (intro w hSw; (try dsimp only at hSw); go_simp) <;> (with_reducible rfl)
        (try simp only [Act.put, List.setIfInBounds_toArray, List.set_cons_zero, List.set_cons_succ])
        refine wpAnyH_pick 10 (v := ?_) rfl (by kernel_rfl) (by kernel_rfl) (by kernel_rfl) (fun _ _ _ h => h) (by assumption) (by rfl) ?_ ?_
        rotate_left
        · (intro w hSw; (try dsimp only at hSw); go_simp) <;> (with_reducible rfl)
        (try simp only [Act.put, List.setIfInBounds_toArray, List.set_cons_zero, List.set_cons_succ])
        refine wpAnyH_ready (rs := [8]) (by kernel_rfl) (by simp) ?_
        refine AllReadyH_pick rfl (fun K hK => ?_) (AllReadyH.nil)
        go_simp
        refine (HBy.out _ p D' HX2.out).mono ?_
        rintro r1 wB ⟨vB, rfl, hSB, hBB, hFB⟩
        have HY3 := Lib.hid (HY2.out.fr0 hFB)
        have sB := run_cv hSB
        go_wp2_with fail
        refine hK.out _ _ ?_ (fun hHeld => ?_)
        · trivial
        clear hK K
        (try simp only [Act.put, List.setIfInBounds_toArray, List.set_cons_zero, List.set_cons_succ])
        refine wpAnyH_add (fun W => (cv vB).run Try.prog W = .ok (.string (strOf bs)) W) _ _ _ _ ?_
        have hHeld2 := And.intro hHeld sB
        refine wpAnyH_pick 9 (v := ?_) rfl (by kernel_rfl) (by kernel_rfl) (by kernel_rfl) (fun _ _ _ h => h) (by assumption) (by rfl) ?_ ?_
        rotate_left
        · (intro w hSw; (try dsimp only at hSw); go_simp) <;> (with_reducible rfl)
        (try simp only [Act.put, List.setIfInBounds_toArray, List.set_cons_zero, List.set_cons_succ])
        refine wpAnyH_ready (rs := [11]) (by kernel_rfl) (by simp) ?_
        refine AllReadyH_pick rfl (fun K hK => ?_) (AllReadyH.nil)
        go_simp
        refine (HBy.out _ m E' HY3.out).mono ?_
        rintro r1 wR ⟨vR, rfl, hSR, hBR, hFR⟩
        have HBR := Lib.hid hBR.fr; clear hBR
        have sB2 := run_cv (hSB.fr0 hFR)
        have sR := run_cv hSR
        go_wp2_with fail
        refine hK.out _ _ ?_ (fun hHeld => ?_)
        · trivial
        clear hK K
        (try simp only [Act.put, List.setIfInBounds_toArray, List.set_cons_zero, List.set_cons_succ])
        refine wpAnyH_add (fun W => (cv vR).run Try.prog W = .ok (.string (strOf bs)) W) _ _ _ _ ?_
        have hHeld2 := And.intro hHeld sR
        refine wpAnyH_pick 12 (v := ?_) rfl (by kernel_rfl) (by kernel_rfl) (by kernel_rfl) (fun _ _ _ h => h) (by assumption) (by rfl) ?_ ?_
        rotate_left
        · (intro w hSw; (try dsimp only at hSw); go_simp) <;> (with_reducible rfl)
        (try simp only [Act.put, List.setIfInBounds_toArray, List.set_cons_zero, List.set_cons_succ])
        refine wpAnyH_pick 13 (v := ?_) rfl (by kernel_rfl) (by kernel_rfl) (by kernel_rfl) (fun _ _ _ h => h) (by assumption) (by rfl) ?_ ?_
        rotate_left
        · (intro w hSw; (try dsimp only at hSw); go_simp) <;> (with_reducible rfl)
        (try simp only [Act.put, List.setIfInBounds_toArray, List.set_cons_zero, List.set_cons_succ])
        refine wpAnyH_pick 14 (v := ?_) rfl (by kernel_rfl) (by kernel_rfl) (by kernel_rfl) (fun _ _ _ h => h) (by assumption) (by rfl) ?_ ?_
        rotate_left
        · (intro w hSw; (try dsimp only at hSw); go_simp) <;> (with_reducible rfl)
        (try simp only [Act.put, List.setIfInBounds_toArray, List.set_cons_zero, List.set_cons_succ])
        refine wpAnyH_pick 15 (v := ?_) rfl (by kernel_rfl) (by kernel_rfl) (by kernel_rfl) (fun _ _ _ h => h) (by assumption) (by rfl) ?_ ?_
        rotate_left
        · (intro w hSw; (try dsimp only at hSw); go_simp) <;> (with_reducible rfl)
        (try simp only [Act.put, List.setIfInBounds_toArray, List.set_cons_zero, List.set_cons_succ])
        refine wpAnyH_done (by kernel_rfl) ?_ _
        skip
        go_wp2_with fail
        go_ret
        exact ⟨rfl, HF.out.trans HBR.out (by simp)⟩
end Go.Proofs.Ytfjlepnodmeaaaa

/-
  The statement BookTopics out of the contracts.
-/
namespace Go.Proofs.Ytfjlepnodmeaaaa
open Go.ChangeShapes Go.WideShapes Go.ChangeAt Go.RowKit

theorem okWide_struct4 {P : Program} {w : World} {r : Reach} {base : Nat} {t : TypeId} {fs : Array Field} {v : Value} (ht : P.underlying t = some (.struct fs)) (hc : P.cellsOf t = 4) (h : Value.okWide P w r base t v) : ∃ c0 c1 c2 c3, v = .agg #[c0, c1, c2, c3] := by
  simp only [Value.okWide, ht] at h
  obtain ⟨⟨l⟩, h1, h2, _⟩ := h
  rw [hc] at h2
  match l, h2 with
  | [c0, c1, c2, c3], _ => exact ⟨c0, c1, c2, c3, h1⟩

set_option maxRecDepth 100000 in
theorem topics5_lifted {X : EncSpec} {Y : DecSpec} (Z : BookSpec X Y) (os : Os) (started : os.Started) (H : Type) (enc : TypeId × Value → H) :
    ReturnsInHanded {} Try.checked os 6 .any (Rows.bookTopicsSpec.pre6 enc Try.prog Try.f6 Rows.bookTopicsRow.domain false) (Rows.bookTopicsSpec.post enc Try.prog Try.f6 false true false false) := by
  refine law_lift (C := Try.checked) own_knob started (by kernel_rfl) Try.func6
    (ChangeSpec.witness6 (enc := enc) (C := Try.checked) false ⟨#[], #[.slice none 0 0, .agg #[.int .i64 0, .int .i64 0, .int .i64 0, .int .i64 0]], []⟩ 8 (by kernel_rfl) (by kernel_rfl) (by kernel_rfl) (by kernel_rfl))
    laid_out rfl rfl Try.underlying4 (of_decide_eq_true (by kernel_rfl)) ?_
  intro W base args ds before hval0 hA0 hlt
  have hval : ∀ (j : Nat) t v, Try.f6.params[j]? = some t → args[j]? = some v → Value.okWide Try.prog W .any base t v := hval0
  have hA : DataW.TrodAll enc Try.prog W 0 (fun _ => true) true Try.f6.params.toList args.toList ds before := hA0
  rw [Try.params6] at hA hval
  obtain ⟨v0, v1, d0, d1, p0, p1, rfl, rfl, -, ⟨fuel0, h0⟩, ⟨fuel1, h1⟩⟩ := trodAll_two hA
  obtain ⟨A0, l0, c0, rfl⟩ := okWide_slice Try.underlying22 (hval 0 _ _ rfl rfl)
  obtain ⟨S0, n0, k0, acts0, e0, ha0, hm0⟩ := open_acts5 (v := .slice A0 l0 c0) h0
  rw [e0]
  simp only [maxLen] at hm0
  obtain ⟨m0, m1, m2, m3, rfl⟩ := okWide_struct4 Try.underlying33 (by kernel_rfl) (hval 1 _ _ rfl rfl)
  obtain ⟨a, ea, hia⟩ := open_act5 h1
  have ea' : [m0, m1, m2, m3] = [.int .i64 a.1, .int .i64 a.2.1, .int .i64 a.2.2.1, .int .i64 a.2.2.2] := ea
  injection ea' with a1 ea'
  injection ea' with a2 ea'
  injection ea' with a3 ea'
  injection ea' with a4 _
  rw [a1, a2, a3, a4]
  exact ⟨rfl, (topics5_law Z S0 n0 k0 acts0 a W ha0 (by omega) hia).mono fun e W' ⟨he, hf⟩ => ⟨he, hf.below (by simp) (Nat.le_refl _)⟩⟩

theorem topics5_holds_of {X : EncSpec} {Y : DecSpec} (Z : BookSpec X Y) : Rows.BookTopicsSaid :=
  OpenClaim.holds_of_wide 6 Try.f6 rfl rfl rfl rfl rfl rfl rfl ⟨rfl, rfl, rfl, rfl, rfl⟩ rfl rfl rfl rfl rfl (by kernel_rfl) Try.func6 (by kernel_rfl)
    (of_decide_eq_true (by kernel_rfl)) (by unfold Func.isWrapper; first | (rw [if_pos (by decide +kernel)]; kernel_rfl) | (rw [if_neg (by decide +kernel)]; exact ⟨rfl, rfl⟩))
    (fun os started H enc _ => topics5_lifted Z os started H enc)
end Go.Proofs.Ytfjlepnodmeaaaa

/-
  The law BookTopics (topics are apart) answers true whatever its input, and leaves its arguments as they were; no condition.
-/
namespace Go.Proofs.Ytfjlepnodmeaaaa
open Go.RowKit

theorem topics5_holds : Rows.BookTopicsSaid := topics5_holds_of bookI
#print axioms topics5_holds
end Go.Proofs.Ytfjlepnodmeaaaa
