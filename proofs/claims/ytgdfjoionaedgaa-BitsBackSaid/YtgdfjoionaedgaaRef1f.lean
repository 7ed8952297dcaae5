/-
  Contracts of the document's reader: Get; conditions: the lengths are bounded as named.
-/
import Derived.Test.YtgdfjoionaedgaaRef1e
namespace Go.Proofs.Ytgdfjoionaedgaa
open Go.RowKit

theorem Src.take {w : World} {A : Option Addr} {n c k : Nat} {xs : List Value} (h : Src w (.slice A n c) xs) (hk : k ≤ n) : Src w (.slice A k c) (xs.take k) := by
  rcases h with ⟨h1, rfl⟩ | ⟨ad, c', h1, hle, hc⟩
  · injection h1 with e1 e2 e3
    subst e1 e2 e3
    obtain rfl : k = 0 := by omega
    exact .inl ⟨rfl, rfl⟩
  · injection h1 with e1 e2 e3
    subst e1 e2 e3
    refine .inr ⟨ad, c, by simp; omega, by simp; omega, fun j u hu => hc j u ?_⟩
    rw [List.getElem?_take] at hu
    split at hu
    · exact hu
    · cases hu

theorem still_quiet {P : Program} {f : FuncId} {args : Array Value} {w : World} {a m : Nat} {v : Value} (ham : a ≤ m)
    (h : Calls P f args (w.drewN m) fun e w' => e = .returned v ∧ w' = w.drewN m) : Calls P f args (w.drewN m) fun e w' => e = .returned v ∧ ∃ k, w' = w.drewN (a + k) :=
  h.mono fun _ _ x => ⟨x.1, m - a, by rw [x.2]; congr 1; omega⟩

theorem rget_width (q : Value) (n : Int) (w : World) (hn : n < 0 ∨ 64 < n) :
    Calls Try.prog 21 #[q, .int .i64 n] w fun e w' => e = .returned (.tuple #[.int .u64 0, .int .i64 1]) ∧ w' = w := by
  rcases hn with hb | hb
  · have h1 : decide (n < 0) = true := by simpa using hb
    go_enter Try.func21, Try.ntmps21
    go_wp2_with fail
    go_ret2
    exact ⟨rfl, rfl⟩
  · have h1 : decide (n < 0) = false := by simp; omega
    have h2 : decide (64 < n) = true := by simpa using hb
    go_enter Try.func21, Try.ntmps21
    go_wp2_with fail
    go_ret2
    exact ⟨rfl, rfl⟩

theorem rget_short (q : Nat) (v : Value) (l : List Bool) (i n : Nat) (w : World) (h : Rr w q v l i) (hl : l.length ≤ 100000000000000) (hn : n ≤ 64) (ha : l.length < i + n) :
    Calls Try.prog 21 #[.pointer (some ⟨q, 0, none⟩), .int .i64 (n : Int)] w fun e w' => e = .returned (.tuple #[.int .u64 0, .int .i64 11]) ∧ Fr [] w w' := by
  obtain ⟨A, c, rfl, hc⟩ := h.slice
  obtain ⟨hB, -, hi, -⟩ := h
  have d0 := hB.cell 0
  have d1 := hB.cell 1
  have d3 := hB.lt
  simp at d0 d1
  have h1 : decide ((n : Int) < 0) = false := by simp
  have h2 : decide ((64 : Int) < (n : Int)) = false := by simp; omega
  have e1 : IntKind.i64.wrap ((l.length : Int) - (i : Int)) = (l.length : Int) - (i : Int) := IntWalk.i64_in _ (by omega)
  have e2 : (l.length : Int) - (i : Int) < (n : Int) := by omega
  clear hB
  go_enter Try.func21, Try.ntmps21
  go_wp2_with fail
  go_quiet (fail)
  go_wp2_with fail
  go_ret2
  exact ⟨rfl, (Fr.refl _ _).drewN _⟩

theorem Rr.fin {w : World} {q i n : Nat} {v : Value} {l : List Bool} (hB : Blk w q 47 #[v, .int .i64 (i : Int)]) (hO : Own w 5 v ((bitsU l).map B8)) (hne : v.ownBlock ≠ some q) (hb : i + n ≤ l.length) (k : Nat) :
    Rr ((w.setCell ⟨q, 1, none⟩ (.int .i64 ((i : Int) + (n : Int)))).drewN k) q v l (i + n) := by
  have h5 := (Rr.moved hB hO hne (i + n) hb).fr (S := []) ((Fr.refl [] _).drewN k) (by simp) (by simp)
  have e5 : ((i + n : Nat) : Int) = (i : Int) + (n : Int) := by omega
  rw [e5] at h5
  exact h5

theorem rget_ok_ne (q : Nat) (A : Option Addr) (c : Nat) (l : List Bool) (i n : Nat) (w : World) (h : Rr w q (.slice A l.length c) l i) (hl : l.length ≤ 100000000000000) (hn : n ≤ 64) (ha : i + n ≤ l.length) (hc : l.length ≤ c) (hck : c ≠ i) :
    Calls Try.prog 21 #[.pointer (some ⟨q, 0, none⟩), .int .i64 (n : Int)] w fun e w' =>
      e = .returned (.tuple #[.int .u64 (number ((l.drop i).take n) : Int), .int .i64 0]) ∧ Rr w' q (.slice A l.length c) l (i + n) ∧ Fr [q] w w' := by
  obtain ⟨hB, hO, hi, hne⟩ := h
  have d0 := hB.cell 0
  have d1 := hB.cell 1
  have d2 := hB.frozen 1
  have d3 := hB.lt
  simp at d0 d1
  have h1 : decide ((n : Int) < 0) = false := by simp
  have h2 : decide ((64 : Int) < (n : Int)) = false := by simp; omega
  have e1 : IntKind.i64.wrap ((l.length : Int) - (i : Int)) = (l.length : Int) - (i : Int) := IntWalk.i64_in _ (by omega)
  have e2 : (n : Int) ≤ (l.length : Int) - (i : Int) := by omega
  have e3 : IntKind.i64.wrap ((i : Int) + (n : Int)) = (i : Int) + (n : Int) := IntWalk.i64_in _ (by omega)
  have e4 : decide ((l.length : Int) - (i : Int) < (n : Int)) = false := by simp; omega
  have HS := (hO.src.drop (k := i) (by omega)).take (k := n) (by omega)
  have hml : ((bitsU l).map B8 |>.drop i |>.take n) = (bitsU ((l.drop i).take n)).map B8 := by simp [bitsU, List.map_take, List.map_drop]
  rw [hml, if_neg hck] at HS
  have hck' : (c = i) = False := by simp [hck]
  have eb1 : (0 : Int) ≤ (i : Int) := by omega
  have eb2 : (0 : Int) ≤ (n : Int) := by omega
  have eb3 : (i : Int) + (n : Int) ≤ (c : Int) := by omega
  have eb4 : (0 : Int) ≤ (i : Int) + (n : Int) := by omega
  have eb5 : ((i : Int) + (n : Int)).toNat = i + n := by omega
  have eb6 : i ≤ i + n := by omega
  have eb7 : i + n - i = n := by omega
  have eb8 : i + n ≤ c := by omega
  clear hml
  have HB := Lib.hid hB; clear hB
  have HN := Lib.hid (fun W (hW : Src W (.slice (A.map (·.add i)) n (c - i)) ((bitsU ((l.drop i).take n)).map B8)) => number_any (.slice (A.map (·.add i)) n (c - i)) ((l.drop i).take n) W hW (by simp; omega))
  have HS' := Lib.hid HS; clear HS
  go_enter Try.func21, Try.ntmps21
  go_wp2_with fail
  go_quiet (fail)
  go_wp2_with fail
  go_quiet ((exact still_quiet (by omega) (HN.out _ (HS'.out.fr0 ((Fr.refl _ _).drewN _)))))
  go_wp2_with fail
  go_ret2
  exact ⟨rfl, Rr.fin HB.out hO hne ha _, ((Fr.refl [q] _).setCell (p := ⟨q, 1, none⟩) (.inl (by simp)) _).drewN _⟩

theorem rget_ok_eq (q : Nat) (A : Option Addr) (l : List Bool) (i : Nat) (w : World) (h : Rr w q (.slice A l.length i) l i) (hl : l.length = i) (hl2 : i ≤ 100000000000000) :
    Calls Try.prog 21 #[.pointer (some ⟨q, 0, none⟩), .int .i64 0] w fun e w' =>
      e = .returned (.tuple #[.int .u64 0, .int .i64 0]) ∧ Rr w' q (.slice A l.length i) l (i + 0) ∧ Fr [q] w w' := by
  obtain ⟨hB, hO, hi, hne⟩ := h
  have d0 := hB.cell 0
  have d1 := hB.cell 1
  have d2 := hB.frozen 1
  have d3 := hB.lt
  simp at d0 d1
  have e1 : IntKind.i64.wrap ((i : Int) - (i : Int)) = 0 := by rw [Int.sub_self]; rfl
  have e2 : IntKind.i64.wrap (0 : Int) = 0 := rfl
  have e3 : IntKind.i64.wrap (i : Int) = (i : Int) := IntWalk.i64_in _ (by omega)
  have eb1 : (0 : Int) ≤ (i : Int) := by omega
  have HS := (hO.src.drop (k := i) (by omega)).take (k := 0) (by omega)
  rw [if_pos rfl, Nat.sub_self, List.take_zero] at HS
  have HB := Lib.hid hB; clear hB
  have HN := Lib.hid (fun W (hW : Src W (.slice A 0 0) ((bitsU []).map B8)) => number_any (.slice A 0 0) [] W hW (by simp))
  have HS' := Lib.hid HS; clear HS
  have HO := Lib.hid hO; clear hO
  have HL := Lib.hid hl
  rw [hl] at d0
  clear hl
  have e0 : number [] = 0 := rfl
  go_enter Try.func21, Try.ntmps21
  go_wp2_with fail
  go_quiet (fail)
  go_wp2_with fail
  go_quiet ((exact still_quiet (by omega) (HN.out _ (HS'.out.fr0 ((Fr.refl _ _).drewN _)))))
  go_wp2_with fail
  go_ret2
  have h9 := Rr.fin (n := 0) HB.out HO.out hne (by have := HL.out; omega)
  simp only [Int.natCast_zero, Int.add_zero] at h9
  exact ⟨rfl, h9 _, ((Fr.refl [q] _).setCell (p := ⟨q, 1, none⟩) (.inl (by simp)) _).drewN _⟩

theorem rget_ok (q : Nat) (v : Value) (l : List Bool) (i n : Nat) (w : World) (h : Rr w q v l i) (hl : l.length ≤ 100000000000000) (hn : n ≤ 64) (ha : i + n ≤ l.length) :
    Calls Try.prog 21 #[.pointer (some ⟨q, 0, none⟩), .int .i64 (n : Int)] w fun e w' =>
      e = .returned (.tuple #[.int .u64 (number ((l.drop i).take n) : Int), .int .i64 0]) ∧ Rr w' q v l (i + n) ∧ Fr [q] w w' := by
  obtain ⟨A, c, rfl, hc⟩ := h.slice
  by_cases hck : c = i
  · subst hck
    obtain rfl : n = 0 := by omega
    exact (rget_ok_eq q A l c w h (by omega) (by omega)).mono fun _ _ h => by simpa [number] using h
  · exact rget_ok_ne q A c l i n w h hl hn ha hc hck
end Go.Proofs.Ytgdfjoionaedgaa
