/-
  The laws' acts of a book, and of the document's: which function an act calls. No condition.
-/
import Derived.Test.YtfjlepnodmeaaaaBookSpec
import Derived.Test.YtfjlepnodmeaaaaRef5h
namespace Go.Proofs.Ytfjlepnodmeaaaa
open Go.RowKit

set_option maxRecDepth 20000 in
theorem lput_any (a : Act5) (u x : Value) (w : World) (Q : Ending → World → Prop) (hQ : ∀ r w', Q r w' → ∃ z : Int, r = .returned (.int .i64 z))
    (h1 : a.1 = 1 → ∀ w1, Fr [] w w1 → Calls Try.prog 25 #[u, x, .int .i64 a.2.1, .int .i64 a.2.2.2] w1 Q)
    (h2 : a.1 = 2 → ∀ w1, Fr [] w w1 → Calls Try.prog 26 #[u, x, .int .i64 a.2.1, .int .i64 a.2.2.2] w1 Q)
    (h3 : a.1 ≠ 1 → a.1 ≠ 2 → ∀ w1, Fr [] w w1 → Calls Try.prog 27 #[u, x, .int .i64 a.2.1, .int .i64 a.2.2.1, .int .i64 a.2.2.2] w1 Q) :
    Calls Try.prog 13 #[vAct a, u, x] w Q := by
  obtain ⟨k, t, n, v⟩ := a
  have H1 := Lib.hid h1; have H2 := Lib.hid h2; have H3 := Lib.hid h3; have HQ := Lib.hid hQ
  clear h1 h2 h3 hQ
  have hF : Fr [] w (w.alloc (.cells #[.int .i64 k, .int .i64 t, .int .i64 n, .int .i64 v] 33)) := (Fr.refl _ _).alloc _
  have HF := Lib.hid hF
  clear hF
  unfold vAct
  by_cases e1 : k = 1
  · have b1 : (k == 1) = true := by simp [e1]
    have HE := Lib.hid e1
    clear e1
    go_enter Try.func13, Try.ntmps13
    go_wp2_with fail
    refine (H1.out HE.out _ HF.out).mono ?_
    rintro r w2 hq
    obtain ⟨z, rfl⟩ := HQ.out _ _ hq
    have hq := Lib.hid hq
    go_wp2_with fail
    first | exact hq.out | (go_ret2; exact hq.out)
  · have b1 : (k == 1) = false := by simp [e1]
    by_cases e2 : k = 2
    · have b2 : (k == 2) = true := by simp [e2]
      have HE := Lib.hid e2
      clear e1 e2
      go_enter Try.func13, Try.ntmps13
      go_wp2_with fail
      refine (H2.out HE.out _ HF.out).mono ?_
      rintro r w2 hq
      obtain ⟨z, rfl⟩ := HQ.out _ _ hq
      have hq := Lib.hid hq
      go_wp2_with fail
      first | exact hq.out | (go_ret2; exact hq.out)
    · have b2 : (k == 2) = false := by simp [e2]
      have HE1 := Lib.hid e1
      have HE2 := Lib.hid e2
      clear e1 e2
      go_enter Try.func13, Try.ntmps13
      go_wp2_with fail
      refine (H3.out HE1.out HE2.out _ HF.out).mono ?_
      rintro r w2 hq
      obtain ⟨z, rfl⟩ := HQ.out _ _ hq
      have hq := Lib.hid hq
      go_wp2_with fail
      first | exact hq.out | (go_ret2; exact hq.out)

set_option maxRecDepth 20000 in
theorem lputRef_any (a : Act5) (u x : Value) (w : World) (Q : Ending → World → Prop) (hQ : ∀ r w', Q r w' → ∃ z : Int, r = .returned (.int .i64 z))
    (h1 : a.1 = 1 → ∀ w1, Fr [] w w1 → Calls Try.prog 28 #[u, x, .int .i64 a.2.1, .int .i64 a.2.2.2] w1 Q)
    (h2 : a.1 = 2 → ∀ w1, Fr [] w w1 → Calls Try.prog 29 #[u, x, .int .i64 a.2.1, .int .i64 a.2.2.2] w1 Q)
    (h3 : a.1 ≠ 1 → a.1 ≠ 2 → ∀ w1, Fr [] w w1 → Calls Try.prog 30 #[u, x, .int .i64 a.2.1, .int .i64 a.2.2.1, .int .i64 a.2.2.2] w1 Q) :
    Calls Try.prog 14 #[vAct a, u, x] w Q := by
  obtain ⟨k, t, n, v⟩ := a
  have H1 := Lib.hid h1; have H2 := Lib.hid h2; have H3 := Lib.hid h3; have HQ := Lib.hid hQ
  clear h1 h2 h3 hQ
  have hF : Fr [] w (w.alloc (.cells #[.int .i64 k, .int .i64 t, .int .i64 n, .int .i64 v] 33)) := (Fr.refl _ _).alloc _
  have HF := Lib.hid hF
  clear hF
  unfold vAct
  by_cases e1 : k = 1
  · have b1 : (k == 1) = true := by simp [e1]
    have HE := Lib.hid e1
    clear e1
    go_enter Try.func14, Try.ntmps14
    go_wp2_with fail
    refine (H1.out HE.out _ HF.out).mono ?_
    rintro r w2 hq
    obtain ⟨z, rfl⟩ := HQ.out _ _ hq
    have hq := Lib.hid hq
    go_wp2_with fail
    first | exact hq.out | (go_ret2; exact hq.out)
  · have b1 : (k == 1) = false := by simp [e1]
    by_cases e2 : k = 2
    · have b2 : (k == 2) = true := by simp [e2]
      have HE := Lib.hid e2
      clear e1 e2
      go_enter Try.func14, Try.ntmps14
      go_wp2_with fail
      refine (H2.out HE.out _ HF.out).mono ?_
      rintro r w2 hq
      obtain ⟨z, rfl⟩ := HQ.out _ _ hq
      have hq := Lib.hid hq
      go_wp2_with fail
      first | exact hq.out | (go_ret2; exact hq.out)
    · have b2 : (k == 2) = false := by simp [e2]
      have HE1 := Lib.hid e1
      have HE2 := Lib.hid e2
      clear e1 e2
      go_enter Try.func14, Try.ntmps14
      go_wp2_with fail
      refine (H3.out HE1.out HE2.out _ HF.out).mono ?_
      rintro r w2 hq
      obtain ⟨z, rfl⟩ := HQ.out _ _ hq
      have hq := Lib.hid hq
      go_wp2_with fail
      first | exact hq.out | (go_ret2; exact hq.out)

set_option maxRecDepth 20000 in
theorem lget_any (a : Act5) (u x : Value) (w : World) (Q : Ending → World → Prop) (hQ : ∀ r w', Q r w' → ∃ z y : Int, r = .returned (.tuple #[.int .i64 z, .int .i64 y]))
    (h1 : a.1 = 1 → ∀ w1, Fr [] w w1 → Calls Try.prog 34 #[u, x, .int .i64 a.2.1] w1 Q)
    (h2 : a.1 = 2 → ∀ w1, Fr [] w w1 → Calls Try.prog 31 #[u, x, .int .i64 a.2.1] w1 Q)
    (h3 : a.1 ≠ 1 → a.1 ≠ 2 → ∀ w1, Fr [] w w1 → Calls Try.prog 32 #[u, x, .int .i64 a.2.1, .int .i64 a.2.2.1] w1 Q) :
    Calls Try.prog 20 #[vAct a, u, x] w Q := by
  obtain ⟨k, t, n, v⟩ := a
  have H1 := Lib.hid h1; have H2 := Lib.hid h2; have H3 := Lib.hid h3; have HQ := Lib.hid hQ
  clear h1 h2 h3 hQ
  have hF : Fr [] w (w.alloc (.cells #[.int .i64 k, .int .i64 t, .int .i64 n, .int .i64 v] 33)) := (Fr.refl _ _).alloc _
  have HF := Lib.hid hF
  clear hF
  unfold vAct
  by_cases e1 : k = 1
  · have b1 : (k == 1) = true := by simp [e1]
    have HE := Lib.hid e1
    clear e1
    go_enter Try.func20, Try.ntmps20
    go_wp2_with fail
    refine (H1.out HE.out _ HF.out).mono ?_
    rintro r w2 hq
    obtain ⟨z, y, rfl⟩ := HQ.out _ _ hq
    have hq := Lib.hid hq
    go_wp2_with fail
    first | exact hq.out | (go_ret2; exact hq.out)
  · have b1 : (k == 1) = false := by simp [e1]
    by_cases e2 : k = 2
    · have b2 : (k == 2) = true := by simp [e2]
      have HE := Lib.hid e2
      clear e1 e2
      go_enter Try.func20, Try.ntmps20
      go_wp2_with fail
      refine (H2.out HE.out _ HF.out).mono ?_
      rintro r w2 hq
      obtain ⟨z, y, rfl⟩ := HQ.out _ _ hq
      have hq := Lib.hid hq
      go_wp2_with fail
      first | exact hq.out | (go_ret2; exact hq.out)
    · have b2 : (k == 2) = false := by simp [e2]
      have HE1 := Lib.hid e1
      have HE2 := Lib.hid e2
      clear e1 e2
      go_enter Try.func20, Try.ntmps20
      go_wp2_with fail
      refine (H3.out HE1.out HE2.out _ HF.out).mono ?_
      rintro r w2 hq
      obtain ⟨z, y, rfl⟩ := HQ.out _ _ hq
      have hq := Lib.hid hq
      go_wp2_with fail
      first | exact hq.out | (go_ret2; exact hq.out)

set_option maxRecDepth 20000 in
theorem lgetRef_any (a : Act5) (u x : Value) (w : World) (Q : Ending → World → Prop) (hQ : ∀ r w', Q r w' → ∃ z y : Int, r = .returned (.tuple #[.int .i64 z, .int .i64 y]))
    (h1 : a.1 = 1 → ∀ w1, Fr [] w w1 → Calls Try.prog 35 #[u, x, .int .i64 a.2.1] w1 Q)
    (h2 : a.1 = 2 → ∀ w1, Fr [] w w1 → Calls Try.prog 36 #[u, x, .int .i64 a.2.1] w1 Q)
    (h3 : a.1 ≠ 1 → a.1 ≠ 2 → ∀ w1, Fr [] w w1 → Calls Try.prog 37 #[u, x, .int .i64 a.2.1, .int .i64 a.2.2.1] w1 Q) :
    Calls Try.prog 21 #[vAct a, u, x] w Q := by
  obtain ⟨k, t, n, v⟩ := a
  have H1 := Lib.hid h1; have H2 := Lib.hid h2; have H3 := Lib.hid h3; have HQ := Lib.hid hQ
  clear h1 h2 h3 hQ
  have hF : Fr [] w (w.alloc (.cells #[.int .i64 k, .int .i64 t, .int .i64 n, .int .i64 v] 33)) := (Fr.refl _ _).alloc _
  have HF := Lib.hid hF
  clear hF
  unfold vAct
  by_cases e1 : k = 1
  · have b1 : (k == 1) = true := by simp [e1]
    have HE := Lib.hid e1
    clear e1
    go_enter Try.func21, Try.ntmps21
    go_wp2_with fail
    refine (H1.out HE.out _ HF.out).mono ?_
    rintro r w2 hq
    obtain ⟨z, y, rfl⟩ := HQ.out _ _ hq
    have hq := Lib.hid hq
    go_wp2_with fail
    first | exact hq.out | (go_ret2; exact hq.out)
  · have b1 : (k == 1) = false := by simp [e1]
    by_cases e2 : k = 2
    · have b2 : (k == 2) = true := by simp [e2]
      have HE := Lib.hid e2
      clear e1 e2
      go_enter Try.func21, Try.ntmps21
      go_wp2_with fail
      refine (H2.out HE.out _ HF.out).mono ?_
      rintro r w2 hq
      obtain ⟨z, y, rfl⟩ := HQ.out _ _ hq
      have hq := Lib.hid hq
      go_wp2_with fail
      first | exact hq.out | (go_ret2; exact hq.out)
    · have b2 : (k == 2) = false := by simp [e2]
      have HE1 := Lib.hid e1
      have HE2 := Lib.hid e2
      clear e1 e2
      go_enter Try.func21, Try.ntmps21
      go_wp2_with fail
      refine (H3.out HE1.out HE2.out _ HF.out).mono ?_
      rintro r w2 hq
      obtain ⟨z, y, rfl⟩ := HQ.out _ _ hq
      have hq := Lib.hid hq
      go_wp2_with fail
      first | exact hq.out | (go_ret2; exact hq.out)

end Go.Proofs.Ytfjlepnodmeaaaa
