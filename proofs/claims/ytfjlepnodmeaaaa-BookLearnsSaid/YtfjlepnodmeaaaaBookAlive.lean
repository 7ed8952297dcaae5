/-
  The live question of layer 5, out of the contracts.
-/
import Derived.Test.YtfjlepnodmeaaaaBookEye
namespace Go.Proofs.Ytfjlepnodmeaaaa
open Go.RowKit

/-! Its numbers. -/
def lb1 : Chs := learned 3 newBook (sgnEvs (-70))
def le1 : Enc := puts encNew (track 3 newBook (sgnEvs (-70)))
def lb2 : Chs := learned 3 lb1 (oneEvs 5 4)
def le2 : Enc := puts le1 (track 3 lb1 (oneEvs 5 4))
def lbs : List UInt8 := bytesOf le2.n le2.v
theorem live5_fine : FineB lb1 ∧ FineB lb2 ∧ le1.Ok ∧ le2.Ok := by
  have h1 : FineB lb1 := learned_fine _ _ newBook_fine
  have h2 : le1.Ok := puts_ok encNew_ok (track_rights _ _ newBook_fine)
  exact ⟨h1, learned_fine _ _ h1, h2, puts_ok h2 (track_rights _ _ h1)⟩
theorem live5_evs : actEvs 2 3 0 (-70) = some (sgnEvs (-70)) ∧ actEvs 3 3 5 4 = some (oneEvs 5 4) := by
  constructor <;> rfl
theorem live5_n : le1.n ≤ 60 ∧ le2.n ≤ 120 ∧ 4 ≤ le2.n := by
  have h1 := puts_n (track 3 newBook (sgnEvs (-70))) encNew
  have h2 := puts_n (track 3 lb1 (oneEvs 5 4)) le1
  have h3 := actEvs_length live5_evs.1
  have h4 := actEvs_length live5_evs.2
  have h5 := puts_le (track 3 newBook (sgnEvs (-70))) encNew
  have h6 := puts_le (track 3 lb1 (oneEvs 5 4)) le1
  rw [track_length] at h1 h2
  change le1.n ≤ 4 + _ at h1
  change le2.n ≤ _ at h2
  change 4 ≤ le1.n at h5
  change le1.n ≤ le2.n at h6
  omega
theorem live5_same : sameB lb2 lb2 = true ∧ sameB lb2 newBook = false := ⟨sameB_refl _, sameB_false (j := 147) (by omega) (by decide +kernel)⟩
theorem live5_got : ∃ d1 d2, getAct lbs 2 3 0 newBook (decOpen lbs) = .ok (-70) lb1 d1 ∧ getAct lbs 3 3 5 lb1 d1 = .ok 4 lb2 d2 ∧ d2.i = lbs.length ∧ d2.rest = 0 := by
  obtain ⟨f1, f2, f3, f4⟩ := live5_fine
  have h0 : Ahd [] lbs (decOpen lbs) (track 3 newBook (sgnEvs (-70)) ++ (track 3 lb1 (oneEvs 5 4) ++ [])) := by
    have := ahd_open (L := track 3 newBook (sgnEvs (-70)) ++ (track 3 lb1 (oneEvs 5 4) ++ [])) (fun x hx => by
      rcases List.mem_append.1 hx with hx | hx
      · exact track_rights 3 _ newBook_fine x hx
      · exact track_rights 3 _ f1 x (by simpa using hx)) []
    rw [List.append_nil (bytesOf _ _)] at this
    have e : puts encNew (track 3 newBook (sgnEvs (-70)) ++ (track 3 lb1 (oneEvs 5 4) ++ [])) = le2 := by
      rw [puts_append, List.append_nil]
      rfl
    rw [e] at this
    exact this
  obtain ⟨d1, g1, h1⟩ := Ahd.act (t := 3) live5_evs.1 newBook (decOpen lbs) h0
  obtain ⟨d2, g2, h2⟩ := Ahd.act (t := 3) live5_evs.2 lb1 d1 h1
  exact ⟨d1, d2, g1, g2, h2.done.1, h2.done.2⟩

theorem in3 : InI 3 ∧ InI 5 ∧ InI 4 ∧ InI (-70) := by unfold InI; omega

theorem bytes_live2 {X : EncSpec} {w0 : World} (W : World) (p : Nat) (D : List Nat) (e : Enc) (h : Live X w0 W p D e) (hn : e.n ≤ 100000) :
    Calls Try.prog 16 #[pt p] W fun r W' => ∃ A c, r = .returned (.slice A e.n c) ∧ Src W' (.slice A e.n c) ((bytesOf e.n e.v).map B8) ∧ Live X w0 W' p D e ∧ Fr [] W W' ∧ ∀ ad, A = some ad → ad.block ∈ D ∨ W.heap.size ≤ ad.block :=
  (X.bytes W p D e h.en h.ok hn).mono fun r W' ⟨u, hr, hS, hF, hb⟩ => by
    obtain ⟨A, c, rfl⟩ := hS.slice
    rw [bytesOf_length] at hS hr
    exact ⟨A, c, hr, hS, h.fr0 hF, hF, fun ad had => hb ad.block (by rw [had]; rfl)⟩

set_option maxRecDepth 20000 in
set_option maxHeartbeats 4000000 in
theorem alive5_any {X : EncSpec} {Y : DecSpec} (Z : BookSpec X Y) (w : World) :
    Calls Try.prog 15 #[] w fun e w' => e = .returned (.bool true) ∧ Fr [] w w' := by
  obtain ⟨f1, f2, f3, f4⟩ := live5_fine
  obtain ⟨i3, i5, i4, i70⟩ := in3
  obtain ⟨n1, n2, n4⟩ := live5_n
  have Hf := Lib.hid (And.intro f1 (And.intro f2 (And.intro f3 f4)))
  have Hn := Lib.hid (And.intro n1 (And.intro n2 n4))
  clear f1 f2 f3 f4 n1 n2 n4
  go_enter Try.func15, Try.ntmps15
  go_wp2_with fail
  refine (Z.new w).mono ?_
  rintro e w1 ⟨b, rfl, hb1, hF1, nb⟩
  have HB1 := Lib.hid hb1; have HF1 := Lib.hid hF1; have NB := Lib.hid nb
  clear hb1 hF1 nb
  go_wp2_with fail
  refine (Z.new w1).mono ?_
  rintro e w2 ⟨c, rfl, hc2, hF2, nc⟩
  have hb2 := Z.fr HB1.out hF2 (by simp)
  have hbc : b < c := Nat.lt_of_lt_of_le (Z.lt HB1.out) nc
  have HB2 := Lib.hid hb2; have HC2 := Lib.hid hc2; have HF2 := Lib.hid (HF1.out.trans hF2 (by simp)); have Hbc := Lib.hid hbc
  clear hb2 hc2 hF2 nc hbc HB1 HF1
  go_wp2_with fail
  refine (new_live (X := X) w2 HF2.out).mono ?_
  rintro e w3 ⟨p, D, rfl, hL, hF3, np⟩
  have hlb := Z.lt HB2.out
  have hlc := Z.lt HC2.out
  have hq : Quill Z w w3 b newBook p D encNew := by
    refine ⟨Z.fr HB2.out hF3 (by simp), hL, NB.out, fun hm => ?_, newBook_fine⟩
    have := np b hm
    omega
  have hc3 := Z.fr HC2.out hF3 (by simp)
  have hcs : c ∉ b :: p :: D := by
    intro hm
    rcases List.mem_cons.1 hm with rfl | hm
    · have := Hbc.out; omega
    · have := np c hm
      omega
  have HQ := Lib.hid hq; have HC3 := Lib.hid hc3; have HCS := Lib.hid hcs
  clear hL hF3 np hlb hlc hq hc3 hcs HB2 HC2 HF2
  go_wp2_with fail
  refine (Z.putS w3 b newBook p D encNew 3 (-70) HQ.out.bk HQ.out.li.en HQ.out.sep HQ.out.fine HQ.out.li.ok (by decide) i3 i70).mono ?_
  rintro e w4 hp
  have hp : e = .returned (.int .i64 0) ∧ ∃ D', Quill Z w w4 b lb1 p D' le1 ∧ c ∉ b :: p :: D' ∧ Z.Bo w4 c newBook := by
    have h1 := HQ.out.posted (a := (2, 3, 0, -70)) (Fr.refl [] _) rfl hp
    obtain ⟨hr, D', hq, hf, hd, -⟩ := h1
    refine ⟨hr, D', hq, fun hm => ?_, Z.fr HC3.out hf HCS.out⟩
    rcases List.mem_cons.1 hm with hm | hm
    · exact HCS.out (by rw [hm]; exact List.mem_cons_self ..)
    · rcases List.mem_cons.1 hm with hm | hm
      · exact HCS.out (by rw [hm]; exact List.mem_cons_of_mem _ (List.mem_cons_self ..))
      · rcases hd c hm with h2 | h2
        · exact HCS.out (List.mem_cons_of_mem _ (List.mem_cons_of_mem _ h2))
        · have := Z.lt HC3.out; omega
  obtain ⟨rfl, D4, hq4, hcs4, hc4⟩ := hp
  have HQ4 := Lib.hid hq4; have HCS4 := Lib.hid hcs4; have HC4 := Lib.hid hc4
  clear hq4 hcs4 hc4 HQ HC3 HCS
  go_wp2_with fail
  refine (Z.putO w4 b lb1 p D4 le1 3 5 4 HQ4.out.bk HQ4.out.li.en HQ4.out.sep HQ4.out.fine HQ4.out.li.ok (by have := Hn.out.1; omega) i3 i5 i4).mono ?_
  rintro e w5 hp
  have hp : e = .returned (.int .i64 0) ∧ ∃ D', Quill Z w w5 b lb2 p D' le2 ∧ c ∉ b :: p :: D' ∧ Z.Bo w5 c newBook := by
    have h1 := HQ4.out.posted (a := (3, 3, 5, 4)) (Fr.refl [] _) rfl hp
    obtain ⟨hr, D', hq, hf, hd, -⟩ := h1
    refine ⟨hr, D', hq, fun hm => ?_, Z.fr HC4.out hf HCS4.out⟩
    rcases List.mem_cons.1 hm with hm | hm
    · exact HCS4.out (by rw [hm]; exact List.mem_cons_self ..)
    · rcases List.mem_cons.1 hm with hm | hm
      · exact HCS4.out (by rw [hm]; exact List.mem_cons_of_mem _ (List.mem_cons_self ..))
      · rcases hd c hm with h2 | h2
        · exact HCS4.out (List.mem_cons_of_mem _ (List.mem_cons_of_mem _ h2))
        · have := Z.lt HC4.out; omega
  obtain ⟨rfl, D5, hq5, hcs5, hc5⟩ := hp
  have HQ5 := Lib.hid hq5; have HC5 := Lib.hid hc5
  have hne : b ≠ c := fun h => hcs5 (by rw [h]; exact List.mem_cons_self ..)
  have hsD : b ∉ D5 ∧ c ∉ D5 := ⟨fun h => HQ5.out.sep (List.mem_cons_of_mem _ h), fun h => hcs5 (List.mem_cons_of_mem _ (List.mem_cons_of_mem _ h))⟩
  have HsD := Lib.hid hsD
  have Hne := Lib.hid hne
  have HBy : Hid (∀ W, Live X w W p D5 le2 → Calls Try.prog 16 #[pt p] W fun r W' => ∃ A c, r = .returned (.slice A lbs.length c) ∧ Src W' (.slice A lbs.length c) (lbs.map B8) ∧ Live X w W' p D5 le2 ∧ Fr [] W W' ∧ ∀ ad, A = some ad → ad.block ∈ D5 ∨ W.heap.size ≤ ad.block) := Lib.hid fun W hW => by
    have h := bytes_live2 W p D5 le2 hW (by have := Hn.out.2.1; omega)
    rw [show le2.n = lbs.length by unfold lbs; simp] at h
    exact h
  clear hq5 hcs5 hc5 hne hsD HQ4 HC4 HCS4
  obtain ⟨n, hnn⟩ : ∃ n, n = lbs.length := ⟨_, rfl⟩
  rw [← hnn] at HBy
  have Hnn := Lib.hid hnn
  clear hnn
  go_wp2_with fail
  refine (HBy.out _ HQ5.out.li).mono ?_
  rintro e w6 ⟨A, cc, rfl, hS, hL, hF6, hAb⟩
  have hq6 := HQ5.out.fr0 hF6
  have hc6 := Z.fr HC5.out hF6 (by simp)
  have hAs : ∀ ad, A = some ad → ad.block ≠ b ∧ ad.block ≠ c := by
    intro ad had
    have lb := Z.lt HQ5.out.bk
    have lc := Z.lt HC5.out
    rcases hAb ad had with h | h
    · exact ⟨fun e => HsD.out.1 (e ▸ h), fun e => HsD.out.2 (e ▸ h)⟩
    · omega
  have hlen : 4 ≤ lbs.length ∧ lbs.length ≤ 120 := by
    have := Hn.out
    unfold lbs
    simp
    omega
  have hO := Y.opens w6 A cc lbs (by rw [← Hnn.out]; exact hS) hlen.1 (by omega)
  rw [← Hnn.out] at hO
  have HO := Lib.hid hO; have HQ6 := Lib.hid hq6; have HC6 := Lib.hid hc6; have Hlen := Lib.hid hlen; have HAs := Lib.hid hAs
  clear hS hL hF6 hq6 hc6 hlen hO HQ5 HC5 HBy hAb hAs HsD
  go_wp2_with fail
  refine HO.out.mono ?_
  rintro e w7 ⟨y, K, rfl, hY, hF7, hy, hyK, hK⟩
  have lb := Z.lt HQ6.out.bk
  have lc := Z.lt HC6.out
  have hcy : c ∉ y :: K ∧ b ∉ y :: K := by
    have h1 : ∀ z, z < w6.heap.size → (∀ ad, A = some ad → ad.block ≠ z) → z ∉ y :: K := by
      intro z hz hzA hm
      rcases List.mem_cons.1 hm with rfl | hm
      · omega
      · rcases hK z hm with h | ⟨ad, had, h⟩
        · omega
        · exact hzA ad had h
    exact ⟨h1 c lc fun ad had => (HAs.out ad had).2, h1 b lb fun ad had => (HAs.out ad had).1⟩
  obtain ⟨d1, d2, hg1, hg2, hi2, hr2⟩ := live5_got
  have hok : Okd lbs newBook (decOpen lbs) := by
    refine ⟨newBook_fine, by decide, by decide, Hlen.out.1, ?_⟩
    have h1 := valueOf_lt (lbs.take 4)
    have h2 : (lbs.take 4).length ≤ 4 := by simp; omega
    have h3 : 256 ^ (lbs.take 4).length ≤ 256 ^ 4 := Nat.pow_le_pow_right (by omega) h2
    show valueOf (lbs.take 4) < _
    omega
  have hl7 : Lens Z w w7 c newBook y K lbs (decOpen lbs) :=
    ⟨Z.fr HC6.out hF7 (by simp), hY, HQ6.out.li.fr.trans hF7 (by simp), by have := HQ6.out.nb; have := NB.out; have := Hbc.out; omega, by have := HQ6.out.li.fr.size; omega, hcy.1, hok, by have := Hlen.out.2; omega⟩
  have hq7 := HQ6.out.fr0 hF7
  have hby : b ∉ [c, y] := by
    intro hm
    simp at hm
    rcases hm with hm | hm
    · exact Hne.out hm
    · exact hcy.2 (by rw [hm]; exact List.mem_cons_self ..)
  have HL7 := Lib.hid hl7; have HB7 := Lib.hid hq7.bk; have Hby := Lib.hid hby; have Hg1 := Lib.hid hg1; have Hg2 := Lib.hid hg2; have Hi2 := Lib.hid hi2; have Hr2 := Lib.hid hr2
  clear hY hF7 hy hyK hK lb lc hcy hok hl7 hq7 hby hg1 hg2 hi2 hr2 HQ6 HC6 HO HAs
  go_wp2_with fail
  refine (Z.getS w7 c newBook y K lbs _ 3 HL7.out.bk HL7.out.de HL7.out.sep HL7.out.ok.fine HL7.out.ok.rest HL7.out.ok.lo HL7.out.ok.hi HL7.out.ok.at_ HL7.out.len i3).mono ?_
  rintro e w8 hp
  have hp := HL7.out.posted (a := (2, 3, 0, 0)) (Fr.refl [] _) rfl hp
  rw [show gotOf lbs (2, 3, 0, 0) newBook (decOpen lbs) = .ok (-70) lb1 d1 from Hg1.out] at hp
  obtain ⟨rfl, hl8, hf8⟩ := hp
  have HL8 := Lib.hid hl8; have HB8 := Lib.hid (Z.fr HB7.out hf8 Hby.out)
  clear hl8 hf8 HL7 HB7
  go_wp2_with fail
  refine (Z.getO w8 c lb1 y K lbs _ 3 5 HL8.out.bk HL8.out.de HL8.out.sep HL8.out.ok.fine HL8.out.ok.rest HL8.out.ok.lo HL8.out.ok.hi HL8.out.ok.at_ HL8.out.len i3 i5).mono ?_
  rintro e w9 hp
  have hp := HL8.out.posted (a := (3, 3, 5, 0)) (Fr.refl [] _) rfl hp
  rw [show gotOf lbs (3, 3, 5, 0) lb1 d1 = .ok 4 lb2 d2 from Hg2.out] at hp
  obtain ⟨rfl, hl9, hf9⟩ := hp
  have HL9 := Lib.hid hl9; have HB9 := Lib.hid (Z.fr HB8.out hf9 Hby.out)
  have hE := Y.ends w9 y K lbs d2 hl9.de
  rw [if_pos ⟨Hi2.out, Hr2.out⟩] at hE
  have HE := Lib.hid hE
  clear hl9 hf9 HL8 HB8 hE
  go_wp2_with fail
  refine HE.out.mono ?_
  rintro e w10 ⟨rfl, m, hm10⟩
  have hF10 : Fr [] w9 w10 := by rw [hm10]; exact (Fr.refl _ _).drewN m
  have HL10 := Lib.hid (HL9.out.fr0 hF10); have HB10 := Lib.hid (Z.fr HB9.out hF10 (by simp))
  clear hm10 hF10 HL9 HB9 HE
  go_wp2_with fail
  refine (Z.same w10 b lb2 c lb2 HB10.out HL10.out.bk).mono ?_
  rintro e w11 ⟨rfl, hF11⟩
  rw [live5_same.1]
  have HL11 := Lib.hid (HL10.out.fr0 hF11); have HB11 := Lib.hid (Z.fr HB10.out hF11 (by simp))
  clear hF11 HL10 HB10
  go_wp2_with fail
  refine (Z.new w11).mono ?_
  rintro e w12 ⟨c3, rfl, hc12, hF12, -⟩
  have HC12 := Lib.hid hc12; have HB12 := Lib.hid (Z.fr HB11.out hF12 (by simp)); have HF12 := Lib.hid (HL11.out.fr.trans hF12 (by simp))
  clear hc12 hF12 HL11 HB11
  go_wp2_with fail
  refine (Z.same w12 b lb2 c3 newBook HB12.out HC12.out).mono ?_
  rintro e w13 ⟨rfl, hF13⟩
  rw [live5_same.2]
  go_wp2_with fail
  go_ret
  exact ⟨rfl, HF12.out.trans hF13 (by simp)⟩
end Go.Proofs.Ytfjlepnodmeaaaa
