/-
  The law QuantWrites answers true whatever its input, and leaves its arguments as they were; no condition.
-/
import Derived.Test.YtendcmdpmohacaaRows
import Derived.Test.YtendcmdpmohacaaAll1
import Derived.Test.YtendcmdpmohacaaAll2
import Derived.Test.YtendcmdpmohacaaAll3
import Derived.Test.YtendcmdpmohacaaAll4
import Derived.Test.YtendcmdpmohacaaAll5
/-
  string(b) of bytes that are known: the string of these bytes.
-/
namespace Go.Proofs.Ytendcmdpmohacaa
open Go.RowKit

/-- The string of bytes. -/
def strOf (xs : List UInt8) : ByteArray := ⟨xs.toArray⟩

theorem strOf_inj {a b : List UInt8} (h : strOf a = strOf b) : a = b := by
  have := congrArg (fun s : ByteArray => s.data.toList) h
  simpa [strOf] using this

theorem fold_push (xs : List UInt8) : ∀ s : ByteArray, (xs.map fun x => (x.toNat : Int)).foldl (fun r n => r.push (UInt8.ofNat n.toNat)) s = ⟨s.data ++ xs.toArray⟩ := by
  induction xs with
  | nil => intro s; simp
  | cons x xs ih =>
    intro s
    rw [List.map_cons, List.foldl_cons, ih]
    have : UInt8.ofNat ((x.toNat : Int)).toNat = x := by simp
    rw [this]
    congr 1
    apply Array.ext'
    simp [ByteArray.push]

theorem run_string {w : World} {v : Value} {xs : List UInt8} (hs : Src w v (xs.map B8)) : (convert 45 9 v).run Try.prog w = .ok (.string (strOf xs)) w := by
  rcases hs with ⟨rfl, h0⟩ | ⟨ad, c, rfl, _, hc⟩
  · rw [List.map_eq_nil_iff.1 h0]
    rw [run_convert_bytes_string w _ _ 5 none 0 0 Try.underlying45 Try.underlying5 Try.underlying9]
    rfl
  · rw [run_convert_bytes_string w _ _ 5 (some ad) _ c Try.underlying45 Try.underlying5 Try.underlying9]
    have h1 := run_loadCells_list (P := Try.prog) w ad (xs.map B8) hc
    have e : (xs.map B8) = (xs.map fun x => (x.toNat : Int)).map (Value.int .u8) := by simp [B8]
    rw [e] at h1
    rw [run_bytesToString w ad _ c (xs.map fun x => (x.toNat : Int)) (by rw [e]; exact h1), fold_push]
    simp [strOf, ByteArray.empty, ByteArray.emptyWithCapacity]
    rfl

/-- The conversion, kept closed: it is met by what is known of its argument alone. -/
def cv (v : Value) : Sem Value := convert 45 9 v
theorem cv_rule (v : Value) : convert 45 9 v = cv v := rfl
theorem run_cv {w : World} {v : Value} {xs : List UInt8} (hs : Src w v (xs.map B8)) : (cv v).run Try.prog w = .ok (.string (strOf xs)) w := run_string hs
end Go.Proofs.Ytendcmdpmohacaa

/-
  The law QuantWrites, out of the contracts: true whatever its input.
-/
namespace Go.Proofs.Ytendcmdpmohacaa
open Go.RowKit

attribute [local go_sem ↓] cv_rule

set_option maxRecDepth 100000 in
set_option maxHeartbeats 8000000 in
theorem writes8_law {X : EncSpec} {Y : DecSpec} (Z : QuantSpec X Y) (A : Option Addr) (len cap : Nat) (L : List RowI) (t : Int) (w : World) (hA : NumRows w A len cap L) (ht : InI t) :
    Calls Try.prog 5 #[.slice A len cap, .int .i64 t] w fun e w' => e = .returned (.bool true) ∧ Fr [] w w' := by
  have hm : len ≤ 9223372036854775807 := hA.most
  have HA := Lib.hid hA; clear hA
  have HT := Lib.hid ht; clear ht
  go_enter Try.func5, Try.ntmps5
  go_wp2_with fail
  refine (Z.new w).mono ?_
  rintro e w1 ⟨b, rfl, hb, hF1, nb⟩
  have HB := Lib.hid hb; have HF1 := Lib.hid hF1; have NB := Lib.hid nb
  clear hb hF1 nb
  go_wp2_with fail
  refine (new_live (X := X) w1 HF1.out).mono ?_
  rintro e w3 ⟨p, D, rfl, hL, hF3, np⟩
  have hlb := Z.lt HB.out
  have hqu : Quill8 Z w w3 b newBook p D encNew := ⟨Z.fr HB.out hF3 (by simp), hL, NB.out, fun hm => by have := np b hm; omega, newBook_fine⟩
  have HQu := Lib.hid hqu
  clear hL hF3 np hlb hqu HB HF1 NB
  go_wp2_with fail
  refine (rnewB_any w3).mono ?_
  rintro e w2 ⟨q, rfl, hq, hF2, nq⟩
  have hq2 := HQu.out.fr0 hF2
  have hsq : ∀ k ∈ b :: p :: D, k ≠ q := fun k hk => by
    have := HQu.out.lt k hk
    omega
  have hnq : w.heap.size ≤ q := by have := HQu.out.li.fr.size; omega
  have HQ2 := Lib.hid hq2; have HQ := Lib.hid hq; have HSq := Lib.hid hsq; have NQ := Lib.hid hnq
  clear hq2 hsq hq hF2 nq hnq HQu
  go_wp2_with fail
  refine (rnew_any w2).mono ?_
  rintro e w4 ⟨m, v, rfl, hR, hF4, nm, nv⟩
  have hD : Duo8 Z w w4 b newBook p D encNew q m v := by
    have hlt := HQ2.out.lt
    have hlq := HQ.out.lt
    have hsz := HQ2.out.li.fr.size
    refine ⟨HQ2.out.fr0 hF4, ⟨HQ.out.fr hF4 (by simp), hR, by omega, fun hv => by have := nv q hv; omega, newBook_fine, encNew_ok⟩, fun k hk => ⟨HSq.out k hk, ?_, fun hv => ?_⟩, NQ.out, by omega, fun k hv => by have := nv k hv; omega⟩
    · have := hlt k hk; omega
    · have := nv k hv; have := hlt k hk; omega
  have HD := Lib.hid hD
  clear hD hR hF4 nm nv HQ2 HQ HSq NQ
  go_wp2_with fail
  go_loopw [9] (fun s9 wr => ∃ (i : Nat) (B : Chs) (D : List Nat) (e : Enc) (v : Value), i ≤ len ∧ i ≤ 10 ∧ e.n ≤ 4 + 2730 * i ∧ s9 = .int .i64 (i : Int) ∧ Duo8 Z w wr b B p D e q m v) (fun s9 _ => 10 - (intOf s9).toNat)
  case atStart => exact ⟨0, newBook, D, encNew, v, by omega, by omega, by decide, rfl, HD.out⟩
  case round =>
    obtain ⟨i, B, D, e, v, hi1, hi2, hn, rfl, hD⟩ := hrel
    have HDr := Lib.hid hD; clear hD HD
    by_cases hlt2 : i < len ∧ i < 10
    · obtain ⟨hl1, hl2⟩ := hlt2
      have eg1 : decide (i < len) = true := by simpa using hl1
      have eg2 : decide ((i : Int) < 10) = true := by simp; omega
      obtain ⟨x, hx⟩ : ∃ x, L[i]? = some x := ⟨_, List.getElem?_eq_getElem (by have := HA.out.count; omega)⟩
      obtain ⟨ad, rfl, -, hrow⟩ := HA.out.at_ hx
      have hcells : ∀ W, Fr [] w W → W.cell? (ad.add i) = some (.slice x.1 x.2.2.length x.2.1) := by
        intro W hF
        obtain ⟨ad', r1, r2, -⟩ := (HA.out.fr0 hF).at_ hx
        have r1 := Option.some.inj r1
        subst r1
        exact r2
      by_cases h100 : x.2.2.length ≤ 100
      · have hne := enBlk_n x.2.2 t B e
        have HP := Lib.hid fun W (h : Quill8 Z w W b B p D e) => h.row hrow t h100 HT.out (by omega)
        have HR := Lib.hid fun W (h : Pen W q B m v e) (hf : Fr [] w W) => pen_row h x (hrow.fr0 hf).src t h100 (by omega)
        obtain ⟨E, hE⟩ : ∃ E, E = errBlk x.2.2 t := ⟨_, rfl⟩
        have HE := Lib.hid hE
        have Hcells := Lib.hid hcells
        have eE : (E != E) = false := by simp
        clear hx hcells hrow hE
        obtain ⟨Bx, cx, xs⟩ := x
        simp only at HP HR Hcells h100 HE hne
        obtain ⟨n, hnn⟩ : ∃ n, n = xs.length := ⟨_, rfl⟩
        rw [← hnn] at HP HR Hcells h100
        have eg3 : decide ((n : Int) ≤ 100) = true := by simp; omega
        clear hnn
        go_upto_region 8 with fail
        have hDd := HDr.out.fr0 (Fr.refl [] wr).drew
        have c0 := Hcells.out _ hDd.a.li.fr
        have HDd := Lib.hid hDd
        clear hDd HDr
        refine wp_region_held_drew (S := fun W => W.cell? (ad.add i) = some (.slice Bx n cx)) (by kernel_rfl) ?_ (fun hHeld => ?_)
        · assumption
        refine wpAnyH_pick 0 (v := ?_) rfl (by kernel_rfl) (by kernel_rfl) (by kernel_rfl) (fun _ _ _ h => h) (by assumption) (by rfl) ?_ ?_
        rotate_left
        · (intro w hSw; (try dsimp only at hSw); go_simp) <;> (with_reducible rfl)
        (try simp only [Act.put, List.setIfInBounds_toArray, List.set_cons_zero, List.set_cons_succ])
        refine wpAnyH_pick 1 (v := ?_) rfl (by kernel_rfl) (by kernel_rfl) (by kernel_rfl) (fun _ _ _ h => h) (by assumption) (by rfl) ?_ ?_
        rotate_left
        · (intro w hSw; (try dsimp only at hSw); go_simp) <;> (with_reducible rfl)
        (try simp only [Act.put, List.setIfInBounds_toArray, List.set_cons_zero, List.set_cons_succ])
        refine wpAnyH_pick 2 (v := ?_) rfl (by kernel_rfl) (by kernel_rfl) (by kernel_rfl) (fun _ _ _ h => h) (by assumption) (by rfl) ?_ ?_
        rotate_left
        · (intro w hSw; (try dsimp only at hSw); go_simp) <;> (with_reducible rfl)
        (try simp only [Act.put, List.setIfInBounds_toArray, List.set_cons_zero, List.set_cons_succ])
        refine wpAnyH_pick 3 (v := ?_) rfl (by kernel_rfl) (by kernel_rfl) (by kernel_rfl) (fun _ _ _ h => h) (by assumption) (by rfl) ?_ ?_
        rotate_left
        · (intro w hSw; (try dsimp only at hSw); go_simp) <;> (with_reducible rfl)
        (try simp only [Act.put, List.setIfInBounds_toArray, List.set_cons_zero, List.set_cons_succ])
        refine wpAnyH_pick 4 (v := ?_) rfl (by kernel_rfl) (by kernel_rfl) (by kernel_rfl) (fun _ _ _ h => h) (by assumption) (by rfl) ?_ ?_
        rotate_left
        · (intro w hSw; (try dsimp only at hSw); go_simp) <;> (with_reducible rfl)
        (try simp only [Act.put, List.setIfInBounds_toArray, List.set_cons_zero, List.set_cons_succ])
        refine wpAnyH_pick 5 (v := ?_) rfl (by kernel_rfl) (by kernel_rfl) (by kernel_rfl) (fun _ _ _ h => h) (by assumption) (by rfl) ?_ ?_
        rotate_left
        · (intro w hSw; (try dsimp only at hSw); go_simp) <;> (with_reducible rfl)
        (try simp only [Act.put, List.setIfInBounds_toArray, List.set_cons_zero, List.set_cons_succ])
        refine wpAnyH_pick 6 (v := ?_) rfl (by kernel_rfl) (by kernel_rfl) (by kernel_rfl) (fun _ _ _ h => h) (by assumption) (by rfl) ?_ ?_
        rotate_left
        · (intro w hSw; (try dsimp only at hSw); go_simp) <;> (with_reducible rfl)
        (try simp only [Act.put, List.setIfInBounds_toArray, List.set_cons_zero, List.set_cons_succ])
        refine wpAnyH_pick 7 (v := ?_) rfl (by kernel_rfl) (by kernel_rfl) (by kernel_rfl) (fun _ _ _ h => h) (by assumption) (by rfl) ?_ ?_
        rotate_left
        · (intro w hSw; (try dsimp only at hSw); go_simp) <;> (with_reducible rfl)
        (try simp only [Act.put, List.setIfInBounds_toArray, List.set_cons_zero, List.set_cons_succ])
        refine wpAnyH_pick 8 (v := ?_) rfl (by kernel_rfl) (by kernel_rfl) (by kernel_rfl) (fun _ _ _ h => h) (by assumption) (by rfl) ?_ ?_
        rotate_left
        · (intro w hSw; (try dsimp only at hSw); go_simp) <;> (with_reducible rfl)
        (try simp only [Act.put, List.setIfInBounds_toArray, List.set_cons_zero, List.set_cons_succ])
        refine wpAnyH_pick 9 (v := ?_) rfl (by kernel_rfl) (by kernel_rfl) (by kernel_rfl) (fun _ _ _ h => h) (by assumption) (by rfl) ?_ ?_
        rotate_left
        · (intro w hSw; (try dsimp only at hSw); go_simp) <;> (with_reducible rfl)
        (try simp only [Act.put, List.setIfInBounds_toArray, List.set_cons_zero, List.set_cons_succ])
        refine wpAnyH_pick 10 (v := ?_) rfl (by kernel_rfl) (by kernel_rfl) (by kernel_rfl) (fun _ _ _ h => h) (by assumption) (by rfl) ?_ ?_
        rotate_left
        · (intro w hSw; (try dsimp only at hSw); go_simp) <;> (with_reducible rfl)
        (try simp only [Act.put, List.setIfInBounds_toArray, List.set_cons_zero, List.set_cons_succ])
        refine wpAnyH_pick 11 (v := ?_) rfl (by kernel_rfl) (by kernel_rfl) (by kernel_rfl) (fun _ _ _ h => h) (by assumption) (by rfl) ?_ ?_
        rotate_left
        · (intro w hSw; (try dsimp only at hSw); go_simp) <;> (with_reducible rfl)
        (try simp only [Act.put, List.setIfInBounds_toArray, List.set_cons_zero, List.set_cons_succ])
        refine wpAnyH_pick 12 (v := ?_) rfl (by kernel_rfl) (by kernel_rfl) (by kernel_rfl) (fun _ _ _ h => h) (by assumption) (by rfl) ?_ ?_
        rotate_left
        · (intro w hSw; (try dsimp only at hSw); go_simp) <;> (with_reducible rfl)
        (try simp only [Act.put, List.setIfInBounds_toArray, List.set_cons_zero, List.set_cons_succ])
        refine wpAnyH_pick 13 (v := ?_) rfl (by kernel_rfl) (by kernel_rfl) (by kernel_rfl) (fun _ _ _ h => h) (by assumption) (by rfl) ?_ ?_
        rotate_left
        · (intro w hSw; (try dsimp only at hSw); go_simp) <;> (with_reducible rfl)
        (try simp only [Act.put, List.setIfInBounds_toArray, List.set_cons_zero, List.set_cons_succ])
        refine wpAnyH_pick 15 (v := ?_) rfl (by kernel_rfl) (by kernel_rfl) (by kernel_rfl) (fun _ _ _ h => h) (by assumption) (by rfl) ?_ ?_
        rotate_left
        · (intro w hSw; (try dsimp only at hSw); go_simp) <;> (with_reducible rfl)
        (try simp only [Act.put, List.setIfInBounds_toArray, List.set_cons_zero, List.set_cons_succ])
        refine wpAnyH_pick 16 (v := ?_) rfl (by kernel_rfl) (by kernel_rfl) (by kernel_rfl) (fun _ _ _ h => h) (by assumption) (by rfl) ?_ ?_
        rotate_left
        · (intro w hSw; (try dsimp only at hSw); go_simp) <;> (with_reducible rfl)
        (try simp only [Act.put, List.setIfInBounds_toArray, List.set_cons_zero, List.set_cons_succ])
        refine wpAnyH_pick 17 (v := ?_) rfl (by kernel_rfl) (by kernel_rfl) (by kernel_rfl) (fun _ _ _ h => h) (by assumption) (by rfl) ?_ ?_
        rotate_left
        · (intro w hSw; (try dsimp only at hSw); go_simp) <;> (with_reducible rfl)
        (try simp only [Act.put, List.setIfInBounds_toArray, List.set_cons_zero, List.set_cons_succ])
        refine wpAnyH_pick 18 (v := ?_) rfl (by kernel_rfl) (by kernel_rfl) (by kernel_rfl) (fun _ _ _ h => h) (by assumption) (by rfl) ?_ ?_
        rotate_left
        · (intro w hSw; (try dsimp only at hSw); go_simp) <;> (with_reducible rfl)
        (try simp only [Act.put, List.setIfInBounds_toArray, List.set_cons_zero, List.set_cons_succ])
        refine wpAnyH_pick 19 (v := ?_) rfl (by kernel_rfl) (by kernel_rfl) (by kernel_rfl) (fun _ _ _ h => h) (by assumption) (by rfl) ?_ ?_
        rotate_left
        · (intro w hSw; (try dsimp only at hSw); go_simp) <;> (with_reducible rfl)
        (try simp only [Act.put, List.setIfInBounds_toArray, List.set_cons_zero, List.set_cons_succ])
        refine wpAnyH_pick 20 (v := ?_) rfl (by kernel_rfl) (by kernel_rfl) (by kernel_rfl) (fun _ _ _ h => h) (by assumption) (by rfl) ?_ ?_
        rotate_left
        · (intro w hSw; (try dsimp only at hSw); go_simp) <;> (with_reducible rfl)
        (try simp only [Act.put, List.setIfInBounds_toArray, List.set_cons_zero, List.set_cons_succ])
        refine wpAnyH_pick 21 (v := ?_) rfl (by kernel_rfl) (by kernel_rfl) (by kernel_rfl) (fun _ _ _ h => h) (by assumption) (by rfl) ?_ ?_
        rotate_left
        · (intro w hSw; (try dsimp only at hSw); go_simp) <;> (with_reducible rfl)
        (try simp only [Act.put, List.setIfInBounds_toArray, List.set_cons_zero, List.set_cons_succ])
        refine wpAnyH_ready (rs := [14]) (by kernel_rfl) (by simp) ?_
        refine AllReadyH_pick rfl (fun K hK => ?_) (AllReadyH.nil)
        go_simp
        refine (HP.out _ HDd.out.a).mono ?_
        rintro r1 wP hP
        obtain ⟨rfl, D', hq, hp, hs⟩ := HDd.out.afterA hP
        rw [← HE.out]
        have d0 := Hcells.out _ hq.li.fr
        have HQ := Lib.hid hq; have HPn := Lib.hid hp; have HS := Lib.hid hs
        clear hP hq hp hs
        go_wp2_with fail
        refine hK.out _ _ ?_ (fun hHeld => ?_)
        · assumption
        clear hK K
        (try simp only [Act.put, List.setIfInBounds_toArray, List.set_cons_zero, List.set_cons_succ])
        refine wpAnyH_ready (rs := [22]) (by kernel_rfl) (by simp) ?_
        refine AllReadyH_pick rfl (fun K hK => ?_) (AllReadyH.nil)
        go_simp
        refine (HR.out _ HPn.out HQ.out.li.fr).mono ?_
        rintro r1 wR hR
        obtain ⟨rfl, v', hD2⟩ := duo8_afterB HQ.out HS.out HDd.out.nq HDd.out.nm HDd.out.nv rfl rfl hR
        rw [← HE.out]
        have f0 := Hcells.out _ hD2.a.li.fr
        have HD2 := Lib.hid hD2
        clear hR hD2
        go_wp2_with fail
        refine hK.out _ _ ?_ (fun hHeld => ?_)
        · assumption
        clear hK K
        (try simp only [Act.put, List.setIfInBounds_toArray, List.set_cons_zero, List.set_cons_succ])
        refine wpAnyH_pick 23 (v := ?_) rfl (by kernel_rfl) (by kernel_rfl) (by kernel_rfl) (fun _ _ _ h => h) (by assumption) (by rfl) ?_ ?_
        rotate_left
        · (intro w hSw; (try dsimp only at hSw); go_simp) <;> (with_reducible rfl)
        (try simp only [Act.put, List.setIfInBounds_toArray, List.set_cons_zero, List.set_cons_succ])
        refine wpAnyH_pick 24 (v := ?_) rfl (by kernel_rfl) (by kernel_rfl) (by kernel_rfl) (fun _ _ _ h => h) (by assumption) (by rfl) ?_ ?_
        rotate_left
        · (intro w hSw; (try dsimp only at hSw); go_simp) <;> (with_reducible rfl)
        (try simp only [Act.put, List.setIfInBounds_toArray, List.set_cons_zero, List.set_cons_succ])
        refine wpAnyH_done (by kernel_rfl) ?_ _
        skip
        go_wp2_with fail
        exact ⟨⟨i + 1, _, D', _, v', by omega, by omega, by omega, by simp, HD2.out⟩, by simp [intOf]; omega⟩
      · have Hcells := Lib.hid hcells
        clear hx hcells hrow
        obtain ⟨Bx, cx, xs⟩ := x
        simp only at Hcells h100
        obtain ⟨n, hnn⟩ : ∃ n, n = xs.length := ⟨_, rfl⟩
        rw [← hnn] at Hcells h100
        have eg3 : decide ((n : Int) ≤ 100) = false := by simp; omega
        have c0 := Hcells.out _ HDr.out.a.li.fr
        clear hnn
        go_upto_region 8 with fail
        go_quiet (fail)
        have HD2 := Lib.hid (HDr.out.fr0 ((Fr.refl [] wr).drewN nq))
        go_wp2_with fail
        exact ⟨⟨i + 1, B, D, e, v, by omega, by omega, by omega, by simp, HD2.out⟩, by simp [intOf]; omega⟩
    · have hex : (decide (i < len) = false) ∨ (decide (i < len) = true ∧ decide ((i : Int) < 10) = false) := by
        by_cases h1 : i < len
        · exact .inr ⟨by simpa using h1, by simp; omega⟩
        · exact .inl (by simpa using h1)
      have hDd := HDr.out.fr0 (Fr.refl [] wr).drew
      have HDd := Lib.hid hDd
      obtain ⟨bs, hbs⟩ : ∃ bs, bs = bytesOf e.n e.v := ⟨_, rfl⟩
      have HBy := Lib.hid fun W (hW : Duo8 Z w W b B p D e q m v) => (show Calls Try.prog 26 #[pt p] W fun r W' => ∃ u, r = .returned u ∧ Src W' u (bs.map B8) ∧ Duo8 Z w W' b B p D e q m v ∧ Fr [] W W' by
        refine (bytes_live W p D e hW.a.li (by omega)).mono ?_
        rintro r W' ⟨A, c, rfl, hS, hL, hF⟩
        exact ⟨_, rfl, by rw [hbs]; exact hS, hW.fr0 hF, hF⟩)
      have HRy := Lib.hid fun W (hW : Duo8 Z w W b B p D e q m v) => (show Calls Try.prog 27 #[pt m] W fun r W' => ∃ u, r = .returned u ∧ Src W' u (bs.map B8) ∧ Duo8 Z w W' b B p D e q m v ∧ Fr [] W W' by
        refine (rbytes_any m v e W hW.r.en (by omega)).mono ?_
        rintro r W' ⟨u, rfl, hM⟩
        rw [← hbs] at hM
        exact ⟨_, rfl, hM.src, hW.fr0 hM.fr, hM.fr⟩)
      clear hbs hDd HDr hlt2 hi1 hi2
      rcases hex with eg1 | ⟨eg1, eg2⟩
      all_goals
        go_upto_region 10 with fail
        refine wp_region_held_drew (S := fun _ => True) (by kernel_rfl) ?_ (fun hHeld => ?_)
        · trivial
        refine wpAnyH_ready (rs := [0]) (by kernel_rfl) (by simp) ?_
        refine AllReadyH_pick rfl (fun K hK => ?_) (AllReadyH.nil)
        go_simp
        refine (alive8_any Z _).mono ?_
        rintro r1 wL ⟨rfl, hFL⟩
        have HBL := Lib.hid (HDd.out.fr0 hFL)
        clear hFL
        go_wp2_with fail
        refine hK.out _ _ ?_ (fun hHeld => ?_)
        · trivial
        clear hK K
        (try simp only [Act.put, List.setIfInBounds_toArray, List.set_cons_zero, List.set_cons_succ])
        refine wpAnyH_pick 1 (v := ?_) rfl (by kernel_rfl) (by kernel_rfl) (by kernel_rfl) (fun _ _ _ h => h) (by assumption) (by rfl) ?_ ?_
        rotate_left
        · (intro w hSw; (try dsimp only at hSw); go_simp) <;> (with_reducible rfl)
        (try simp only [Act.put, List.setIfInBounds_toArray, List.set_cons_zero, List.set_cons_succ])
        refine wpAnyH_pick 2 (v := ?_) rfl (by kernel_rfl) (by kernel_rfl) (by kernel_rfl) (fun _ _ _ h => h) (by assumption) (by rfl) ?_ ?_
        rotate_left
        · (intro w hSw; (try dsimp only at hSw); go_simp) <;> (with_reducible rfl)
        (try simp only [Act.put, List.setIfInBounds_toArray, List.set_cons_zero, List.set_cons_succ])
        refine wpAnyH_pick 5 (v := ?_) rfl (by kernel_rfl) (by kernel_rfl) (by kernel_rfl) (fun _ _ _ h => h) (by assumption) (by rfl) ?_ ?_
        rotate_left
        · (intro w hSw; (try dsimp only at hSw); go_simp) <;> (with_reducible rfl)
        (try simp only [Act.put, List.setIfInBounds_toArray, List.set_cons_zero, List.set_cons_succ])
        refine wpAnyH_ready (rs := [3]) (by kernel_rfl) (by simp) ?_
        refine AllReadyH_pick rfl (fun K hK => ?_) (AllReadyH.nil)
        go_simp
        refine (HBy.out _ HBL.out).mono ?_
        rintro r1 wB ⟨vB, rfl, hSB, hBB, hFB⟩
        have HBB := Lib.hid hBB; clear hBB
        have sB := run_cv hSB
        go_wp2_with fail
        refine hK.out _ _ ?_ (fun hHeld => ?_)
        · trivial
        clear hK K
        (try simp only [Act.put, List.setIfInBounds_toArray, List.set_cons_zero, List.set_cons_succ])
        refine wpAnyH_add (fun W => (cv vB).run Try.prog W = .ok (.string (strOf bs)) W) _ _ _ _ ?_
        have hHeld2 := And.intro hHeld sB
        refine wpAnyH_pick 4 (v := ?_) rfl (by kernel_rfl) (by kernel_rfl) (by kernel_rfl) (fun _ _ _ h => h) (by assumption) (by rfl) ?_ ?_
        rotate_left
        · (intro w hSw; (try dsimp only at hSw); go_simp) <;> (with_reducible rfl)
        (try simp only [Act.put, List.setIfInBounds_toArray, List.set_cons_zero, List.set_cons_succ])
        refine wpAnyH_ready (rs := [6]) (by kernel_rfl) (by simp) ?_
        refine AllReadyH_pick rfl (fun K hK => ?_) (AllReadyH.nil)
        go_simp
        refine (HRy.out _ HBB.out).mono ?_
        rintro r1 wR ⟨vR, rfl, hSR, hBR, hFR⟩
        have HBR := Lib.hid hBR; clear hBR
        have sB2 := run_cv (hSB.fr0 hFR)
        have sR := run_cv hSR
        go_wp2_with fail
        refine hK.out _ _ ?_ (fun hHeld => ?_)
        · trivial
        clear hK K
        (try simp only [Act.put, List.setIfInBounds_toArray, List.set_cons_zero, List.set_cons_succ])
        refine wpAnyH_add (fun W => (cv vR).run Try.prog W = .ok (.string (strOf bs)) W) _ _ _ _ ?_
        have hHeld2 := And.intro hHeld sR
        refine wpAnyH_pick 7 (v := ?_) rfl (by kernel_rfl) (by kernel_rfl) (by kernel_rfl) (fun _ _ _ h => h) (by assumption) (by rfl) ?_ ?_
        rotate_left
        · (intro w hSw; (try dsimp only at hSw); go_simp) <;> (with_reducible rfl)
        (try simp only [Act.put, List.setIfInBounds_toArray, List.set_cons_zero, List.set_cons_succ])
        refine wpAnyH_pick 8 (v := ?_) rfl (by kernel_rfl) (by kernel_rfl) (by kernel_rfl) (fun _ _ _ h => h) (by assumption) (by rfl) ?_ ?_
        rotate_left
        · (intro w hSw; (try dsimp only at hSw); go_simp) <;> (with_reducible rfl)
        (try simp only [Act.put, List.setIfInBounds_toArray, List.set_cons_zero, List.set_cons_succ])
        refine wpAnyH_pick 9 (v := ?_) rfl (by kernel_rfl) (by kernel_rfl) (by kernel_rfl) (fun _ _ _ h => h) (by assumption) (by rfl) ?_ ?_
        rotate_left
        · (intro w hSw; (try dsimp only at hSw); go_simp) <;> (with_reducible rfl)
        (try simp only [Act.put, List.setIfInBounds_toArray, List.set_cons_zero, List.set_cons_succ])
        refine wpAnyH_pick 10 (v := ?_) rfl (by kernel_rfl) (by kernel_rfl) (by kernel_rfl) (fun _ _ _ h => h) (by assumption) (by rfl) ?_ ?_
        rotate_left
        · (intro w hSw; (try dsimp only at hSw); go_simp) <;> (with_reducible rfl)
        (try simp only [Act.put, List.setIfInBounds_toArray, List.set_cons_zero, List.set_cons_succ])
        refine wpAnyH_done (by kernel_rfl) ?_ _
        skip
        go_wp2_with fail
        go_ret
        exact ⟨rfl, HBR.out.a.li.fr⟩
end Go.Proofs.Ytendcmdpmohacaa

/-
  The statement QuantWrites out of the contracts.
-/
namespace Go.Proofs.Ytendcmdpmohacaa
open Go.ChangeShapes Go.WideShapes Go.ChangeAt Go.RowKit

set_option maxRecDepth 100000 in
theorem writes8_lifted {X : EncSpec} {Y : DecSpec} (Z : QuantSpec X Y) (os : Os) (started : os.Started) (H : Type) (enc : TypeId × Value → H) :
    ReturnsInHanded {} Try.checked os 5 .any (Rows.quantWritesSpec.pre6 enc Try.prog Try.f5 Rows.quantWritesRow.domain false) (Rows.quantWritesSpec.post enc Try.prog Try.f5 false true false false) := by
  refine law_lift (C := Try.checked) own_knob started (by kernel_rfl) Try.func5
    (ChangeSpec.witness6 (enc := enc) (C := Try.checked) false ⟨#[], #[.slice none 0 0, .int .i64 0], []⟩ 8 (by kernel_rfl) (by kernel_rfl) (by kernel_rfl) (by kernel_rfl))
    laid_out rfl rfl Try.underlying4 (of_decide_eq_true (by kernel_rfl)) ?_
  intro W base args ds before hval0 hA0 hlt
  have hval : ∀ (j : Nat) t v, Try.f5.params[j]? = some t → args[j]? = some v → Value.okWide Try.prog W .any base t v := hval0
  have hA : DataW.TrodAll enc Try.prog W 0 (fun _ => true) true Try.f5.params.toList args.toList ds before := hA0
  rw [Try.params5] at hA hval
  obtain ⟨v0, v1, d0, d1, p0, p1, rfl, rfl, -, ⟨fuel0, h0⟩, h1⟩ := trodAll_two hA
  obtain ⟨A0, l0, c0, rfl⟩ := okWide_slice Try.underlying34 (hval 0 _ _ rfl rfl)
  obtain ⟨S0, n0, k0, L0, e0, hr0⟩ := open_rows (v := .slice A0 l0 c0) h0
  rw [e0]
  obtain ⟨z1, rfl, -, -, wz1⟩ := open_int Try.underlying3 (hval 1 _ _ rfl rfl) h1
  simp [Lit.wf, IntKind.min, IntKind.max, IntKind.signed, IntKind.bits] at wz1
  have j1 : InI z1 := by unfold InI; omega
  exact ⟨rfl, (writes8_law Z S0 n0 k0 L0 z1 W hr0 j1).mono fun e W' ⟨he, hf⟩ => ⟨he, hf.below (by simp) (Nat.le_refl _)⟩⟩

theorem writes8_holds_of {X : EncSpec} {Y : DecSpec} (Z : QuantSpec X Y) : Rows.QuantWritesSaid :=
  OpenClaim.holds_of_wide 5 Try.f5 rfl rfl rfl rfl rfl rfl rfl ⟨rfl, rfl, rfl, rfl, rfl⟩ rfl rfl rfl rfl rfl (by kernel_rfl) Try.func5 (by kernel_rfl)
    (of_decide_eq_true (by kernel_rfl)) (by unfold Func.isWrapper; first | (rw [if_pos (by decide +kernel)]; kernel_rfl) | (rw [if_neg (by decide +kernel)]; exact ⟨rfl, rfl⟩))
    (fun os started H enc _ => writes8_lifted Z os started H enc)
end Go.Proofs.Ytendcmdpmohacaa

/-
  The law QuantWrites answers true whatever its input, and leaves its arguments as they were; no condition.
-/
namespace Go.Proofs.Ytendcmdpmohacaa
open Go.RowKit

theorem writes8_holds : Rows.QuantWritesSaid := writes8_holds_of quantI
#print axioms writes8_holds
end Go.Proofs.Ytendcmdpmohacaa
