/-
  The law BookWrites (any numbers of any topics that are put) answers true whatever its input, and leaves its arguments as they were; no condition.
-/
import Derived.Test.YtfjlepnodmeaaaaAll1
import Derived.Test.YtfjlepnodmeaaaaAll2
import Derived.Test.YtfjlepnodmeaaaaAll3
/-
  The law BookWrites answers true whatever its input, out of the contracts; no condition.
-/
namespace Go.Proofs.Ytfjlepnodmeaaaa
open Go.RowKit

section
variable {X : EncSpec} {Y : DecSpec} {Z : BookSpec X Y} {w0 w w' : World} {b : Nat} {B : Chs} {p : Nat} {D : List Nat} {e : Enc} {q m : Nat} {v : Value} {a : Act5} {r : Ending}
theorem Duo.afterA (h : Duo Z w0 w b B p D e q m v) (hA : QuillPost Z w0 w b B p D e a r w') :
    r = .returned (.int .i64 (errOf a)) ∧ ∃ D', Quill Z w0 w' b (bkAct a B) p D' (enAct a B e) ∧ Pen w' q B m v e ∧ ∀ k ∈ b :: p :: D', k ≠ q ∧ k ≠ m ∧ v.ownBlock ≠ some k := by
  obtain ⟨hr, D', hq, hf, hd, -⟩ := hA
  have hql := h.r.bk.lt
  have hml := Re.lt h.r.en
  refine ⟨hr, D', hq, h.r.frS hf (fun hm => (h.sep q hm).1 rfl) (fun hm => (h.sep m hm).2.1 rfl) (fun k hk hm => (h.sep k hm).2.2 hk), fun k hk => ?_⟩
  rcases List.mem_cons.1 hk with rfl | hk
  · exact h.sep _ (List.mem_cons_self ..)
  · rcases List.mem_cons.1 hk with rfl | hk
    · exact h.sep _ (List.mem_cons_of_mem _ (List.mem_cons_self ..))
    · rcases hd k hk with h1 | h1
      · exact h.sep k (List.mem_cons_of_mem _ (List.mem_cons_of_mem _ h1))
      · refine ⟨by omega, by omega, fun hv => ?_⟩
        have := own_lt h.r.en.2.1 k hv
        omega
theorem duo_afterB {B' : Chs} {e' : Enc} (h : Quill Z w0 w b B' p D e') (hP : Pen w q B m v e) (hs : ∀ k ∈ b :: p :: D, k ≠ q ∧ k ≠ m ∧ v.ownBlock ≠ some k) (nq : w0.heap.size ≤ q) (nm : w0.heap.size ≤ m) (nv : ∀ k, v.ownBlock = some k → w0.heap.size ≤ k)
    (hB : B' = bkAct a B) (he : e' = enAct a B e) (hp : PenPost w q m v B e a r w') : r = .returned (.int .i64 (errOf a)) ∧ ∃ v', Duo Z w0 w' b B' p D e' q m v' := by
  obtain ⟨hr, v', hp2, hf⟩ := hp
  have hlt := h.lt
  refine ⟨hr, v', h.frS hf.1 (fun k hk hm => ?_) (fun x hx => ?_), by rw [hB, he]; exact hp2, fun k hk => ⟨(hs k hk).1, (hs k hk).2.1, fun hv => ?_⟩, nq, nm, fun k hk => ?_⟩
  · rcases List.mem_cons.1 hm with hm | hm
    · exact (hs k hk).1 hm
    · rcases List.mem_cons.1 hm with hm | hm
      · exact (hs k hk).2.1 hm
      · exact (hs k hk).2.2 (by simpa using hm)
  · rcases List.mem_cons.1 hx with rfl | hx
    · exact nq
    · rcases List.mem_cons.1 hx with rfl | hx
      · exact nm
      · exact nv x (by simpa using hx)
  · rcases hf.2 with h1 | ⟨g, h1, h2⟩
    · exact (hs k hk).2.2 (h1 ▸ hv)
    · rw [h1] at hv
      injection hv with hv
      have := hlt k hk
      omega
  · rcases hf.2 with h1 | ⟨g, h1, h2⟩
    · exact nv k (h1 ▸ hk)
    · rw [h1] at hk
      injection hk with hk
      have := h.li.fr.size
      omega
end

attribute [local go_sem ↓] cv_rule

set_option maxRecDepth 100000 in
set_option maxHeartbeats 8000000 in
theorem writes5_law {X : EncSpec} {Y : DecSpec} (Z : BookSpec X Y) (A : Option Addr) (len cap : Nat) (acts : List Act5) (w : World) (hA : Acts5 w A len acts) (hm : len ≤ 9223372036854775807) :
    Calls Try.prog 3 #[.slice A len cap] w fun e w' => e = .returned (.bool true) ∧ Fr [] w w' := by
  have HA := Lib.hid hA; clear hA
  go_enter Try.func3, Try.ntmps3
  go_wp2_with fail
  refine (Z.new w).mono ?_
  rintro e w1 ⟨b, rfl, hb, hF1, nb⟩
  have HB := Lib.hid hb; have HF1 := Lib.hid hF1; have NB := Lib.hid nb
  clear hb hF1 nb
  go_wp2_with fail
  refine (rnewB_any w1).mono ?_
  rintro e w2 ⟨q, rfl, hq, hF2, nq⟩
  have hb2 := Z.fr HB.out hF2 (by simp)
  have hbq : b < q := Nat.lt_of_lt_of_le (Z.lt HB.out) nq
  have HB2 := Lib.hid hb2; have HQ := Lib.hid hq; have HF2 := Lib.hid (HF1.out.trans hF2 (by simp)); have NQ := Lib.hid (And.intro (Nat.le_trans HF1.out.size nq) hbq)
  clear hb2 hq hF2 nq hbq HB HF1
  go_wp2_with fail
  refine (new_live (X := X) w2 HF2.out).mono ?_
  rintro e w3 ⟨p, D, rfl, hL, hF3, np⟩
  have hlb := Z.lt HB2.out
  have hlq := HQ.out.lt
  have hqu : Quill Z w w3 b newBook p D encNew := ⟨Z.fr HB2.out hF3 (by simp), hL, NB.out, fun hm => by have := np b hm; omega, newBook_fine⟩
  have hq3 := HQ.out.fr hF3 (by simp)
  have hsq : ∀ k ∈ b :: p :: D, k ≠ q := by
    intro k hk
    have := NQ.out.2
    rcases List.mem_cons.1 hk with rfl | hk
    · omega
    · have := np k hk
      omega
  have HQu := Lib.hid hqu; have HQ3 := Lib.hid hq3; have HSq := Lib.hid hsq
  clear hL hF3 np hlb hlq hqu hq3 hsq HB2 HQ HF2 NB
  go_wp2_with fail
  refine (rnew_any w3).mono ?_
  rintro e w4 ⟨m, v, rfl, hR, hF4, nm, nv⟩
  have hD : Duo Z w w4 b newBook p D encNew q m v := by
    have hlt := HQu.out.lt
    have hlq := HQ3.out.lt
    have hsz := HQu.out.li.fr.size
    refine ⟨HQu.out.fr0 hF4, ⟨HQ3.out.fr hF4 (by simp), hR, by omega, fun hv => by have := nv q hv; omega, newBook_fine, encNew_ok⟩, fun k hk => ⟨HSq.out k hk, ?_, fun hv => ?_⟩, NQ.out.1, by omega, fun k hv => by have := nv k hv; omega⟩
    · have := hlt k hk; omega
    · have := nv k hv; have := hlt k hk; omega
  have HD := Lib.hid hD
  clear hD hR hF4 nm nv HQu HQ3 HSq NQ
  go_wp2_with fail
  go_loopw [7] (fun s7 wr => ∃ (i : Nat) (B : Chs) (D : List Nat) (e : Enc) (v : Value), i ≤ len ∧ i ≤ 100 ∧ e.n ≤ 4 + 42 * i ∧ s7 = .int .i64 (i : Int) ∧ Duo Z w wr b B p D e q m v) (fun s7 _ => 100 - (intOf s7).toNat)
  case atStart => exact ⟨0, newBook, D, encNew, v, by omega, by omega, by decide, rfl, HD.out⟩
  case round =>
    obtain ⟨i, B, D, e, v, hi1, hi2, hn, rfl, hD⟩ := hrel
    have HDr := Lib.hid hD; clear hD HD
    by_cases hlt2 : i < len ∧ i < 100
    · obtain ⟨hl1, hl2⟩ := hlt2
      have eg1 : decide (i < len) = true := by simpa using hl1
      have eg2 : decide ((i : Int) < 100) = true := by simp; omega
      obtain ⟨a, ha⟩ : ∃ x, acts[i]? = some x := ⟨_, List.getElem?_eq_getElem (by have := HA.out.1; omega)⟩
      have hcell : ∀ W, Fr [] w W → InA a ∧ ∃ g o, A = some ⟨g, o, none⟩ ∧ ActAt W g (o + i * 4) a := fun W hF => (HA.out.fr hF).2 i a ha
      obtain ⟨hia, g, o, rfl, -⟩ := hcell wr HDr.out.a.li.fr
      have hcells : ∀ W, Fr [] w W → ActAt W g (o + i * 4) a := by
        intro W hF
        obtain ⟨-, g', o', r1, h1⟩ := hcell W hF
        have r2 := Option.some.inj r1
        injection r2 with r3 r4
        subst r3 r4
        exact h1
      obtain ⟨E, hE⟩ : ∃ E, E = errOf a := ⟨_, rfl⟩
      have hne := enAct_n a B e
      have HP : Hid (∀ W, Quill Z w W b B p D e → Calls Try.prog 13 #[vAct a, pt b, pt p] W (QuillPost Z w W b B p D e a)) := Lib.hid fun W h => h.put hia (by omega)
      have HR : Hid (∀ W, Pen W q B m v e → Calls Try.prog 14 #[vAct a, pt q, pt m] W (PenPost W q m v B e a)) := Lib.hid fun W h => h.put hia (by omega)
      have Hcells := Lib.hid hcells
      have HE := Lib.hid hE
      have eE : (E != E) = false := by simp
      clear hcell hcells ha hia hE
      obtain ⟨k, t, n, x⟩ := a
      unfold vAct at HP HR
      simp only at HP HR
      go_upto_region 8 with fail
      have hDd := HDr.out.fr0 (Fr.refl [] wr).drew
      obtain ⟨c0, c1, c2, c3⟩ := Hcells.out _ hDd.a.li.fr
      simp only at c0 c1 c2 c3
      have HDd := Lib.hid hDd
      clear hDd HDr
      refine wp_region_held_drew (S := fun W => W.cell? ⟨g, o + i * 4, none⟩ = some (.int .i64 k) ∧ W.cell? ⟨g, o + i * 4 + 1, none⟩ = some (.int .i64 t) ∧ W.cell? ⟨g, o + i * 4 + 2, none⟩ = some (.int .i64 n) ∧ W.cell? ⟨g, o + i * 4 + 3, none⟩ = some (.int .i64 x)) (by kernel_rfl) ?_ (fun hHeld => ?_)
      · (repeat' (first | trivial | assumption | refine ⟨?_, ?_⟩))
      refine wpAnyH_pick 0 (v := ?_) rfl (by kernel_rfl) (by kernel_rfl) (by kernel_rfl) (fun _ _ _ h => h) (by assumption) (by rfl) ?_ ?_
      rotate_left
      · (intro w hSw; (try dsimp only at hSw); go_simp) <;> (with_reducible rfl)
      (try simp only [Act.put, List.setIfInBounds_toArray, List.set_cons_zero, List.set_cons_succ])
      refine wpAnyH_pick 1 (v := ?_) rfl (by kernel_rfl) (by kernel_rfl) (by kernel_rfl) (fun _ _ _ h => h) (by assumption) (by rfl) ?_ ?_
      rotate_left
      · (intro w hSw; (try dsimp only at hSw); go_simp) <;> (with_reducible rfl)
      (try simp only [Act.put, List.setIfInBounds_toArray, List.set_cons_zero, List.set_cons_succ])
      refine wpAnyH_pick 2 (v := ?_) rfl (by kernel_rfl) (by kernel_rfl) (by kernel_rfl) (fun _ _ _ h => h) (by assumption) (by rfl) ?_ ?_
      rotate_left
      · (intro w hSw; (try dsimp only at hSw); go_simp) <;> (with_reducible rfl)
      (try simp only [Act.put, List.setIfInBounds_toArray, List.set_cons_zero, List.set_cons_succ])
      refine wpAnyH_pick 3 (v := ?_) rfl (by kernel_rfl) (by kernel_rfl) (by kernel_rfl) (fun _ _ _ h => h) (by assumption) (by rfl) ?_ ?_
      rotate_left
      · (intro w hSw; (try dsimp only at hSw); go_simp) <;> (with_reducible rfl)
      (try simp only [Act.put, List.setIfInBounds_toArray, List.set_cons_zero, List.set_cons_succ])
      refine wpAnyH_pick 4 (v := ?_) rfl (by kernel_rfl) (by kernel_rfl) (by kernel_rfl) (fun _ _ _ h => h) (by assumption) (by rfl) ?_ ?_
      rotate_left
      · (intro w hSw; (try dsimp only at hSw); go_simp) <;> (with_reducible rfl)
      (try simp only [Act.put, List.setIfInBounds_toArray, List.set_cons_zero, List.set_cons_succ])
      refine wpAnyH_pick 5 (v := ?_) rfl (by kernel_rfl) (by kernel_rfl) (by kernel_rfl) (fun _ _ _ h => h) (by assumption) (by rfl) ?_ ?_
      rotate_left
      · (intro w hSw; (try dsimp only at hSw); go_simp) <;> (with_reducible rfl)
      (try simp only [Act.put, List.setIfInBounds_toArray, List.set_cons_zero, List.set_cons_succ])
      refine wpAnyH_pick 7 (v := ?_) rfl (by kernel_rfl) (by kernel_rfl) (by kernel_rfl) (fun _ _ _ h => h) (by assumption) (by rfl) ?_ ?_
      rotate_left
      · (intro w hSw; (try dsimp only at hSw); go_simp) <;> (with_reducible rfl)
      (try simp only [Act.put, List.setIfInBounds_toArray, List.set_cons_zero, List.set_cons_succ])
      refine wpAnyH_pick 8 (v := ?_) rfl (by kernel_rfl) (by kernel_rfl) (by kernel_rfl) (fun _ _ _ h => h) (by assumption) (by rfl) ?_ ?_
      rotate_left
      · (intro w hSw; (try dsimp only at hSw); go_simp) <;> (with_reducible rfl)
      (try simp only [Act.put, List.setIfInBounds_toArray, List.set_cons_zero, List.set_cons_succ])
      refine wpAnyH_pick 9 (v := ?_) rfl (by kernel_rfl) (by kernel_rfl) (by kernel_rfl) (fun _ _ _ h => h) (by assumption) (by rfl) ?_ ?_
      rotate_left
      · (intro w hSw; (try dsimp only at hSw); go_simp) <;> (with_reducible rfl)
      (try simp only [Act.put, List.setIfInBounds_toArray, List.set_cons_zero, List.set_cons_succ])
      refine wpAnyH_pick 10 (v := ?_) rfl (by kernel_rfl) (by kernel_rfl) (by kernel_rfl) (fun _ _ _ h => h) (by assumption) (by rfl) ?_ ?_
      rotate_left
      · (intro w hSw; (try dsimp only at hSw); go_simp) <;> (with_reducible rfl)
      (try simp only [Act.put, List.setIfInBounds_toArray, List.set_cons_zero, List.set_cons_succ])
      refine wpAnyH_pick 11 (v := ?_) rfl (by kernel_rfl) (by kernel_rfl) (by kernel_rfl) (fun _ _ _ h => h) (by assumption) (by rfl) ?_ ?_
      rotate_left
      · (intro w hSw; (try dsimp only at hSw); go_simp) <;> (with_reducible rfl)
      (try simp only [Act.put, List.setIfInBounds_toArray, List.set_cons_zero, List.set_cons_succ])
      refine wpAnyH_pick 12 (v := ?_) rfl (by kernel_rfl) (by kernel_rfl) (by kernel_rfl) (fun _ _ _ h => h) (by assumption) (by rfl) ?_ ?_
      rotate_left
      · (intro w hSw; (try dsimp only at hSw); go_simp) <;> (with_reducible rfl)
      (try simp only [Act.put, List.setIfInBounds_toArray, List.set_cons_zero, List.set_cons_succ])
      refine wpAnyH_ready (rs := [6]) (by kernel_rfl) (by simp) ?_
      refine AllReadyH_pick rfl (fun K hK => ?_) (AllReadyH.nil)
      go_simp
      refine (HP.out _ HDd.out.a).mono ?_
      rintro r1 wP hP
      obtain ⟨rfl, D', hq, hp, hs⟩ := HDd.out.afterA hP
      rw [← HE.out]
      obtain ⟨d0, d1, d2, d3⟩ := Hcells.out _ hq.li.fr
      simp only at d0 d1 d2 d3
      have HQ := Lib.hid hq; have HPn := Lib.hid hp; have HS := Lib.hid hs
      clear hP hq hp hs
      go_wp2_with fail
      refine hK.out _ _ ?_ (fun hHeld => ?_)
      · (repeat' (first | trivial | assumption | refine ⟨?_, ?_⟩))
      clear hK K
      (try simp only [Act.put, List.setIfInBounds_toArray, List.set_cons_zero, List.set_cons_succ])
      refine wpAnyH_ready (rs := [13]) (by kernel_rfl) (by simp) ?_
      refine AllReadyH_pick rfl (fun K hK => ?_) (AllReadyH.nil)
      go_simp
      refine (HR.out _ HPn.out).mono ?_
      rintro r1 wR hR
      obtain ⟨rfl, v', hD2⟩ := duo_afterB HQ.out HPn.out HS.out HDd.out.nq HDd.out.nm HDd.out.nv rfl rfl hR
      rw [← HE.out]
      obtain ⟨f0, f1, f2, f3⟩ := Hcells.out _ hD2.a.li.fr
      simp only at f0 f1 f2 f3
      have HD2 := Lib.hid hD2
      clear hR hD2
      go_wp2_with fail
      refine hK.out _ _ ?_ (fun hHeld => ?_)
      · (repeat' (first | trivial | assumption | refine ⟨?_, ?_⟩))
      clear hK K
      (try simp only [Act.put, List.setIfInBounds_toArray, List.set_cons_zero, List.set_cons_succ])
      refine wpAnyH_pick 14 (v := ?_) rfl (by kernel_rfl) (by kernel_rfl) (by kernel_rfl) (fun _ _ _ h => h) (by assumption) (by rfl) ?_ ?_
      rotate_left
      · (intro w hSw; (try dsimp only at hSw); go_simp) <;> (with_reducible rfl)
      (try simp only [Act.put, List.setIfInBounds_toArray, List.set_cons_zero, List.set_cons_succ])
      refine wpAnyH_done (by kernel_rfl) ?_ _
      skip
      go_wp2_with fail
      exact ⟨⟨i + 1, _, D', _, v', by omega, by omega, by omega, by simp, HD2.out⟩, by simp [intOf]; omega⟩
    · have hex : (decide (i < len) = false) ∨ (decide (i < len) = true ∧ decide ((i : Int) < 100) = false) := by
        by_cases h1 : i < len
        · exact .inr ⟨by simpa using h1, by simp; omega⟩
        · exact .inl (by simpa using h1)
      have hDd := HDr.out.fr0 (Fr.refl [] wr).drew
      have HDd := Lib.hid hDd
      obtain ⟨bs, hbs⟩ : ∃ bs, bs = bytesOf e.n e.v := ⟨_, rfl⟩
      have HBy : Hid (∀ W, Duo Z w W b B p D e q m v → Calls Try.prog 16 #[pt p] W fun r W' => ∃ u, r = .returned u ∧ Src W' u (bs.map B8) ∧ Duo Z w W' b B p D e q m v ∧ Fr [] W W') := Lib.hid fun W hW => by
        refine (bytes_live W p D e hW.a.li (by omega)).mono ?_
        rintro r W' ⟨A, c, rfl, hS, hL, hF⟩
        exact ⟨_, rfl, by rw [hbs]; exact hS, hW.fr0 hF, hF⟩
      have HRy : Hid (∀ W, Duo Z w W b B p D e q m v → Calls Try.prog 17 #[pt m] W fun r W' => ∃ u, r = .returned u ∧ Src W' u (bs.map B8) ∧ Duo Z w W' b B p D e q m v ∧ Fr [] W W') := Lib.hid fun W hW => by
        refine (rbytes_any m v e W hW.r.en (by omega)).mono ?_
        rintro r W' ⟨u, rfl, hM⟩
        rw [← hbs] at hM
        exact ⟨_, rfl, hM.src, hW.fr0 hM.fr, hM.fr⟩
      clear hbs hDd HDr hlt2 hi1 hi2
      rcases hex with eg1 | ⟨eg1, eg2⟩
      all_goals
        go_upto_region 10 with fail
        refine wp_region_held_drew (S := fun _ => True) (by kernel_rfl) ?_ (fun hHeld => ?_)
        · trivial
        refine wpAnyH_ready (rs := [0]) (by kernel_rfl) (by simp) ?_
        refine AllReadyH_pick rfl (fun K hK => ?_) (AllReadyH.nil)
        go_simp
        refine (alive5_any Z _).mono ?_
        rintro r1 wL ⟨rfl, hFL⟩
        have HBL := Lib.hid (HDd.out.fr0 hFL)
        clear hFL
        go_wp2_with fail
        refine hK.out _ _ ?_ (fun hHeld => ?_)
        · trivial
        clear hK K
        (try simp only [Act.put, List.setIfInBounds_toArray, List.set_cons_zero, List.set_cons_succ])
        refine wpAnyH_pick 1 (v := ?_) rfl (by kernel_rfl) (by kernel_rfl) (by kernel_rfl) (fun _ _ _ h => h) (by assumption) (by rfl) ?_ ?_
        rotate_left
        · (intro w hSw; (try dsimp only at hSw); go_simp) <;> (with_reducible rfl)
        (try simp only [Act.put, List.setIfInBounds_toArray, List.set_cons_zero, List.set_cons_succ])
        refine wpAnyH_pick 2 (v := ?_) rfl (by kernel_rfl) (by kernel_rfl) (by kernel_rfl) (fun _ _ _ h => h) (by assumption) (by rfl) ?_ ?_
        rotate_left
        · (intro w hSw; (try dsimp only at hSw); go_simp) <;> (with_reducible rfl)
        (try simp only [Act.put, List.setIfInBounds_toArray, List.set_cons_zero, List.set_cons_succ])
        refine wpAnyH_pick 5 (v := ?_) rfl (by kernel_rfl) (by kernel_rfl) (by kernel_rfl) (fun _ _ _ h => h) (by assumption) (by rfl) ?_ ?_
        rotate_left
        · (intro w hSw; (try dsimp only at hSw); go_simp) <;> (with_reducible rfl)
        (try simp only [Act.put, List.setIfInBounds_toArray, List.set_cons_zero, List.set_cons_succ])
        refine wpAnyH_ready (rs := [3]) (by kernel_rfl) (by simp) ?_
        refine AllReadyH_pick rfl (fun K hK => ?_) (AllReadyH.nil)
        go_simp
        refine (HBy.out _ HBL.out).mono ?_
        rintro r1 wB ⟨vB, rfl, hSB, hBB, hFB⟩
        have HBB := Lib.hid hBB; clear hBB
        have sB := run_cv hSB
        go_wp2_with fail
        refine hK.out _ _ ?_ (fun hHeld => ?_)
        · trivial
        clear hK K
        (try simp only [Act.put, List.setIfInBounds_toArray, List.set_cons_zero, List.set_cons_succ])
        refine wpAnyH_add (fun W => (cv vB).run Try.prog W = .ok (.string (strOf bs)) W) _ _ _ _ ?_
        have hHeld2 := And.intro hHeld sB
        refine wpAnyH_pick 4 (v := ?_) rfl (by kernel_rfl) (by kernel_rfl) (by kernel_rfl) (fun _ _ _ h => h) (by assumption) (by rfl) ?_ ?_
        rotate_left
        · (intro w hSw; (try dsimp only at hSw); go_simp) <;> (with_reducible rfl)
        (try simp only [Act.put, List.setIfInBounds_toArray, List.set_cons_zero, List.set_cons_succ])
        refine wpAnyH_ready (rs := [6]) (by kernel_rfl) (by simp) ?_
        refine AllReadyH_pick rfl (fun K hK => ?_) (AllReadyH.nil)
        go_simp
        refine (HRy.out _ HBB.out).mono ?_
        rintro r1 wR ⟨vR, rfl, hSR, hBR, hFR⟩
        have HBR := Lib.hid hBR; clear hBR
        have sB2 := run_cv (hSB.fr0 hFR)
        have sR := run_cv hSR
        go_wp2_with fail
        refine hK.out _ _ ?_ (fun hHeld => ?_)
        · trivial
        clear hK K
        (try simp only [Act.put, List.setIfInBounds_toArray, List.set_cons_zero, List.set_cons_succ])
        refine wpAnyH_add (fun W => (cv vR).run Try.prog W = .ok (.string (strOf bs)) W) _ _ _ _ ?_
        have hHeld2 := And.intro hHeld sR
        refine wpAnyH_pick 7 (v := ?_) rfl (by kernel_rfl) (by kernel_rfl) (by kernel_rfl) (fun _ _ _ h => h) (by assumption) (by rfl) ?_ ?_
        rotate_left
        · (intro w hSw; (try dsimp only at hSw); go_simp) <;> (with_reducible rfl)
        (try simp only [Act.put, List.setIfInBounds_toArray, List.set_cons_zero, List.set_cons_succ])
        refine wpAnyH_pick 8 (v := ?_) rfl (by kernel_rfl) (by kernel_rfl) (by kernel_rfl) (fun _ _ _ h => h) (by assumption) (by rfl) ?_ ?_
        rotate_left
        · (intro w hSw; (try dsimp only at hSw); go_simp) <;> (with_reducible rfl)
        (try simp only [Act.put, List.setIfInBounds_toArray, List.set_cons_zero, List.set_cons_succ])
        refine wpAnyH_pick 9 (v := ?_) rfl (by kernel_rfl) (by kernel_rfl) (by kernel_rfl) (fun _ _ _ h => h) (by assumption) (by rfl) ?_ ?_
        rotate_left
        · (intro w hSw; (try dsimp only at hSw); go_simp) <;> (with_reducible rfl)
        (try simp only [Act.put, List.setIfInBounds_toArray, List.set_cons_zero, List.set_cons_succ])
        refine wpAnyH_pick 10 (v := ?_) rfl (by kernel_rfl) (by kernel_rfl) (by kernel_rfl) (fun _ _ _ h => h) (by assumption) (by rfl) ?_ ?_
        rotate_left
        · (intro w hSw; (try dsimp only at hSw); go_simp) <;> (with_reducible rfl)
        (try simp only [Act.put, List.setIfInBounds_toArray, List.set_cons_zero, List.set_cons_succ])
        refine wpAnyH_done (by kernel_rfl) ?_ _
        skip
        go_wp2_with fail
        go_ret
        exact ⟨rfl, HBR.out.a.li.fr⟩
end Go.Proofs.Ytfjlepnodmeaaaa

/-
  The statement BookWrites out of the contracts.
-/
namespace Go.Proofs.Ytfjlepnodmeaaaa
open Go.ChangeShapes Go.WideShapes Go.ChangeAt Go.RowKit

set_option maxRecDepth 100000 in
theorem writes5_lifted {X : EncSpec} {Y : DecSpec} (Z : BookSpec X Y) (os : Os) (started : os.Started) (H : Type) (enc : TypeId × Value → H) :
    ReturnsInHanded {} Try.checked os 3 .any (Rows.bookWritesSpec.pre6 enc Try.prog Try.f3 Rows.bookWritesRow.domain false) (Rows.bookWritesSpec.post enc Try.prog Try.f3 false true false false) := by
  refine law_lift (C := Try.checked) own_knob started (by kernel_rfl) Try.func3
    (ChangeSpec.witness6 (enc := enc) (C := Try.checked) false ⟨#[], #[.slice none 0 0], []⟩ 8 (by kernel_rfl) (by kernel_rfl) (by kernel_rfl) (by kernel_rfl))
    laid_out rfl rfl Try.underlying4 (of_decide_eq_true (by kernel_rfl)) ?_
  intro W base args ds before hval0 hA0 hlt
  have hval : ∀ (j : Nat) t v, Try.f3.params[j]? = some t → args[j]? = some v → Value.okWide Try.prog W .any base t v := hval0
  have hA : DataW.TrodAll enc Try.prog W 0 (fun _ => true) true Try.f3.params.toList args.toList ds before := hA0
  rw [Try.params3] at hA hval
  obtain ⟨v0, d0, rfl, rfl, fuel0, h0⟩ := trodAll_one hA
  obtain ⟨A0, l0, c0, rfl⟩ := okWide_slice Try.underlying22 (hval 0 _ _ rfl rfl)
  obtain ⟨S0, n0, k0, acts0, e0, ha0, hm0⟩ := open_acts5 (v := .slice A0 l0 c0) h0
  rw [e0]
  simp only [maxLen] at hm0
  exact ⟨rfl, (writes5_law Z S0 n0 k0 acts0 W ha0 (by omega)).mono fun e W' ⟨he, hf⟩ => ⟨he, hf.below (by simp) (Nat.le_refl _)⟩⟩

theorem writes5_holds_of {X : EncSpec} {Y : DecSpec} (Z : BookSpec X Y) : Rows.BookWritesSaid :=
  OpenClaim.holds_of_wide 3 Try.f3 rfl rfl rfl rfl rfl rfl rfl ⟨rfl, rfl, rfl, rfl, rfl⟩ rfl rfl rfl rfl rfl (by kernel_rfl) Try.func3 (by kernel_rfl)
    (of_decide_eq_true (by kernel_rfl)) (by unfold Func.isWrapper; first | (rw [if_pos (by decide +kernel)]; kernel_rfl) | (rw [if_neg (by decide +kernel)]; exact ⟨rfl, rfl⟩))
    (fun os started H enc _ => writes5_lifted Z os started H enc)
end Go.Proofs.Ytfjlepnodmeaaaa

/-
  The law BookWrites (any numbers of any topics that are put) answers true whatever its input, and leaves its arguments as they were; no condition.
-/
namespace Go.Proofs.Ytfjlepnodmeaaaa
open Go.RowKit

theorem writes5_holds : Rows.BookWritesSaid := writes5_holds_of bookI
#print axioms writes5_holds
end Go.Proofs.Ytfjlepnodmeaaaa
