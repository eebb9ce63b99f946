/-
  The program's scanner: numbers, words, bytes.
-/
import Derived.Test.YtnffjafddbbjaaaGreatDoorQNum
import Derived.Test.YtnffjafddbbjaaaGreatDoorJ8
namespace Go.Proofs.YtnffjafddbbjaaaGreatDoor
open Go.RowKit

set_option maxRecDepth 4000 in
set_option maxHeartbeats 1600000 in
theorem scanNumber_any (p most : Nat) (s : ByteArray) (c : Sc) (w : World) (h : LSc w p s c) (hok : ScOk s c) (hs : s.size ≤ 1000000000) (hm : most < 18446744073709551616) (hK : KVar w) : Calls Tryz.prog 63 #[.pointer (some ⟨p, 0, none⟩), .int .u64 (most : Int)] w fun r w' => r = .returned (.int .u64 (scNumVal s most c : Int)) ∧ LSc w' p s (scNum s most c) ∧ Fr w w' (fun k => k = p) := by
  obtain ⟨V, hV⟩ : ∃ V, V = scNumVal s most c := ⟨_, rfl⟩
  obtain ⟨C, hC⟩ : ∃ C, C = scNum s most c := ⟨_, rfl⟩
  rw [← hV, ← hC]
  have HV : Hid _ := hV
  have HC : Hid _ := hC
  have H : Hid (LSc w p s c) := h
  have Hok : Hid (ScOk s c) := hok
  obtain ⟨L, hL⟩ : ∃ L, L = scLeft s c.pos := ⟨_, rfl⟩
  have HL : Hid (L = scLeft s c.pos) := hL
  obtain ⟨k0, k1, k2, k3⟩ := qfour_cells h
  rw [← hL] at k0
  clear hV hC h hok
  by_cases he : c.err = 0
  · have hb : ((c.err : Int) == 0) = true := by rw [beq_iff_eq]; omega
    have hb' : (c.err == 0) = true := by rw [beq_iff_eq]; exact he
    have hn : ((c.err : Int) != 0) = false := by rw [bne, hb]; rfl
    have hLs : L.size ≤ 1000000000 := by rw [hL, left_size]; omega
    have hnum := number_any L most w hK hLs hm
    have HV2 : Hid ((numR L most).1 = V) := by show _ = _; rw [hL, numR_val s c most he Hok.out.1, HV.out]
    have HC2 : Hid (C = if (numR L most).2.2 = 0 then scMove s c (numR L most).2.1 else scFail c (numR L most).2.2) := by show _ = _; rw [HC.out, numR_sc s c most he Hok.out.1, hL]
    have HN : Hid (c.pos + (numR L most).2.1 ≤ s.size) := by show _ ≤ _; have h1 := numR_size L most; have h2 := Hok.out.1; rw [hL, left_size] at h1; rw [hL]; omega
    have HE := numR_err L most
    have HZ : Hid ((numR L most).2.2 ≠ 0 → (numR L most).1 = 0) := numR_zero L most
    generalize numR L most = R at hnum HV2 HC2 HN HE HZ
    obtain ⟨rv, rn, re⟩ := R
    have HV3 : Hid (rv = V) := HV2.out
    have HC3 : Hid (C = if re = 0 then scMove s c rn else scFail c re) := HC2.out
    have HN3 : Hid (c.pos + rn ≤ s.size) := HN.out
    have HZ3 : Hid (re ≠ 0 → rv = 0) := HZ.out
    have HE3 : re = 0 ∨ re = 20 ∨ re = 21 ∨ re = 22 := HE
    have Hs : Hid (s.size ≤ 1000000000) := hs
    clear HV2 HC2 HN HZ HE HV HC hL hLs hs hK hm
    have hnum2 : Calls Tryz.prog 96 #[.string L, .int .u64 (most : Int)] w fun e w' => e = .returned (.tuple #[.int .u64 (rv : Int), .int .i64 (rn : Int), .int .i64 (re : Int)]) ∧ Fr w w' (fun _ => False) := hnum
    clear hnum
    by_cases hz : re = 0
    · subst hz
      have HC4 : Hid (C = scMove s c rn) := by show _ = _; rw [HC3.out, if_pos rfl]
      go_enter Tryz.func63, Tryz.ntmps63
      go_wp2_with fail
      refine hnum2.mono ?_
      rintro e w1 ⟨rfl, hf⟩
      have Hf : Hid (Fr w w1 (fun _ => False)) := hf
      clear hf
      go_wp2_with fail
      refine (scanPass_any p rn s c w1 (Hf.out.kept H.out (fun h => h)) Hok.out HN3.out Hs.out).mono ?_
      rintro e w2 ⟨rfl, hl, hf2⟩
      have Hl : Hid _ := hl
      have Hf2 : Hid (Fr w w2 (fun k => k = p)) := (Hf.out.mono (fun _ _ h => h.elim)).trans hf2 (fun _ _ h => h)
      clear hl hf2
      go_wp2_with fail
      go_ret
      exact ⟨by rw [← HV3.out]; rfl, by rw [HC4.out]; exact Hl.out, Hf2.out⟩
    · have hz1 : ((re : Int) == 0) = false := by rw [beq_eq_false_iff_ne]; omega
      have hz2 : (re == 0) = false := by rw [beq_eq_false_iff_ne]; exact hz
      have hz3 : ((re : Int) != 0) = true := by rw [bne, hz1]; rfl
      have HC4 : Hid (C = scFail c re) := by show _ = _; rw [HC3.out, if_neg hz]
      have HV4 : Hid (V = 0) := by show _ = _; rw [← HV3.out]; exact HZ3.out hz
      go_enter Tryz.func63, Tryz.ntmps63
      go_wp2_with fail
      refine hnum2.mono ?_
      rintro e w1 ⟨rfl, hf⟩
      have Hf : Hid (Fr w w1 (fun _ => False)) := hf
      clear hf
      go_wp2_with fail
      refine (scanFail_any p re s c w1 (Hf.out.kept H.out (fun h => h))).mono ?_
      rintro e w2 ⟨rfl, hl, hf2⟩
      have Hl : Hid _ := hl
      have Hf2 : Hid (Fr w w2 (fun k => k = p)) := (Hf.out.mono (fun _ _ h => h.elim)).trans hf2 (fun _ _ h => h)
      clear hl hf2
      go_wp2_with fail
      go_ret
      exact ⟨by rw [HV4.out]; rfl, by rw [HC4.out]; exact Hl.out, Hf2.out⟩
  · have hb : ((c.err : Int) == 0) = false := by rw [beq_eq_false_iff_ne]; omega
    have hb' : (c.err == 0) = false := by rw [beq_eq_false_iff_ne]; exact he
    have hn : ((c.err : Int) != 0) = true := by rw [bne, hb]; rfl
    have HV2 : Hid (V = 0) := by show _ = _; rw [HV.out]; unfold scNumVal; rw [if_neg he]
    have HC2 : Hid (C = c) := by show _ = _; rw [HC.out]; unfold scNum; rw [if_neg he]
    clear HV HC
    go_enter Tryz.func63, Tryz.ntmps63
    go_wp2_with fail
    go_ret
    exact ⟨by rw [HV2.out]; rfl, by rw [HC2.out]; exact H.out, Fr.refl _ _⟩

set_option maxRecDepth 4000 in
set_option maxHeartbeats 1600000 in
theorem scanWord_any (p : Nat) (s u : ByteArray) (c : Sc) (w : World) (h : LSc w p s c) (hok : ScOk s c) (hs : s.size ≤ 1000000000) : Calls Tryz.prog 61 #[.pointer (some ⟨p, 0, none⟩), .string u] w fun r w' => r = .returned (.bool (scWordOk s u c)) ∧ LSc w' p s (scWord s u c) ∧ Fr w w' (fun k => k = p) := by
  obtain ⟨O, hO⟩ : ∃ O, O = scWordOk s u c := ⟨_, rfl⟩
  obtain ⟨C, hC⟩ : ∃ C, C = scWord s u c := ⟨_, rfl⟩
  rw [← hO, ← hC]
  have HO : Hid _ := hO
  have HC : Hid _ := hC
  have H : Hid (LSc w p s c) := h
  have Hok : Hid (ScOk s c) := hok
  have Hs : Hid (s.size ≤ 1000000000) := hs
  obtain ⟨L, hL⟩ : ∃ L, L = scLeft s c.pos := ⟨_, rfl⟩
  have HL : Hid (L = scLeft s c.pos) := hL
  obtain ⟨k0, k1, k2, k3⟩ := qfour_cells h
  rw [← hL] at k0
  clear hO hC h hok hs
  by_cases he : c.err = 0
  · have hb : ((c.err : Int) == 0) = true := by rw [beq_iff_eq]; omega
    have hb' : (c.err == 0) = true := by rw [beq_iff_eq]; exact he
    have hn : ((c.err : Int) != 0) = false := by rw [bne, hb]; rfl
    have hpre := prefix_any L u w
    have hz := scWord_zero s u c.pos
    have hw := scWord_short s u c.pos
    rw [← hL] at hz hw
    by_cases h0 : wordErr s u c.pos 0 u.size = 0
    · have h1 := hz.1 h0
      rw [h1] at hpre
      have HO2 : Hid (O = true) := by show _ = _; rw [HO.out]; unfold scWordOk; rw [hb', h0]; rfl
      have HC2 : Hid (C = scMove s c u.size) := by show _ = _; rw [HC.out]; unfold scWord; rw [if_pos he, if_pos h0]
      have HN : Hid (c.pos + u.size ≤ s.size) := by show _ ≤ _; have := wordErr_fits s u c.pos u.size 0 (by have := Hok.out.1; omega) h0; omega
      clear hz hw h0 h1 HO HC hL
      go_enter Tryz.func61, Tryz.ntmps61
      go_wp2_with fail
      refine hpre.mono ?_
      rintro e w1 ⟨rfl, rfl⟩
      go_wp2_with fail
      refine (scanPass_any p u.size s c w1 H.out Hok.out HN.out Hs.out).mono ?_
      rintro e w2 ⟨rfl, hl, hf2⟩
      have Hl : Hid _ := hl
      have Hf2 : Hid (Fr w1 w2 (fun k => k = p)) := hf2
      clear hl hf2
      go_wp2_with fail
      go_ret
      exact ⟨by rw [HO2.out]; rfl, by rw [HC2.out]; exact Hl.out, Hf2.out⟩
    · have h1 : Lib.hasPrefix L.data.toList u.data.toList = false := Bool.eq_false_iff.mpr (fun e => h0 (hz.2 e))
      rw [h1] at hpre
      have h2 := hw h0
      have hdif := fun z => differs_any L u z
      rw [← h2] at hdif
      have HO2 : Hid (O = false) := by show _ = _; rw [HO.out]; unfold scWordOk; rw [beq_eq_false_iff_ne.mpr h0, Bool.and_false]
      have HC2 : Hid (C = scFail c (wordErr s u c.pos 0 u.size)) := by show _ = _; rw [HC.out]; unfold scWord scFail; rw [if_pos he, if_neg h0, if_pos he]
      clear hz hw h1 h2 HO HC hL h0
      generalize wordErr s u c.pos 0 u.size = E at hdif HC2
      go_enter Tryz.func61, Tryz.ntmps61
      go_wp2_with fail
      refine hpre.mono ?_
      rintro e w1 ⟨rfl, rfl⟩
      go_wp2_with fail
      refine (hdif w1).mono ?_
      rintro e w2 ⟨rfl, rfl⟩
      go_wp2_with fail
      refine (scanFail_any p E s c w2 H.out).mono ?_
      rintro e w3 ⟨rfl, hl, hf2⟩
      have Hl : Hid _ := hl
      have Hf2 : Hid (Fr w2 w3 (fun k => k = p)) := hf2
      clear hl hf2
      go_wp2_with fail
      go_ret
      exact ⟨by rw [HO2.out]; rfl, by rw [HC2.out]; exact Hl.out, Hf2.out⟩
  · have hb : ((c.err : Int) == 0) = false := by rw [beq_eq_false_iff_ne]; omega
    have hb' : (c.err == 0) = false := by rw [beq_eq_false_iff_ne]; exact he
    have hn : ((c.err : Int) != 0) = true := by rw [bne, hb]; rfl
    have HO2 : Hid (O = false) := by show _ = _; rw [HO.out]; unfold scWordOk; rw [hb', Bool.false_and]
    have HC2 : Hid (C = c) := by show _ = _; rw [HC.out]; unfold scWord; rw [if_neg he]
    clear HO HC hL
    go_enter Tryz.func61, Tryz.ntmps61
    go_wp2_with fail
    go_ret
    exact ⟨by rw [HO2.out]; rfl, by rw [HC2.out]; exact H.out, Fr.refl _ _⟩

set_option maxRecDepth 4000 in
set_option maxHeartbeats 800000 in
theorem scanByte_any (p b : Nat) (s : ByteArray) (c : Sc) (w : World) (h : LSc w p s c) (hok : ScOk s c) (hs : s.size ≤ 1000000000) : Calls Tryz.prog 62 #[.pointer (some ⟨p, 0, none⟩), .int .u8 (b : Int)] w fun r w' => r = .returned (.bool (scByteOk s b c)) ∧ LSc w' p s (scByte s b c) ∧ Fr w w' (fun k => k = p) := by
  obtain ⟨V, hV⟩ : ∃ V, V = strOf [b] := ⟨_, rfl⟩
  have hconv := conv_one w b
  unfold scByteOk scByte
  rw [← hV] at hconv ⊢
  obtain ⟨O, hO⟩ : ∃ O, O = scWordOk s V c := ⟨_, rfl⟩
  obtain ⟨D, hD⟩ : ∃ D, D = scWord s V c := ⟨_, rfl⟩
  rw [← hO, ← hD]
  have HO : Hid _ := hO
  have HD : Hid _ := hD
  have H : Hid (LSc w p s c) := h
  have Hok : Hid (ScOk s c) := hok
  have Hs : Hid (s.size ≤ 1000000000) := hs
  clear hV hO hD h hok hs
  go_enter Tryz.func62, Tryz.ntmps62
  go_wp2_with fail
  have Hf1 : Hid (Fr w (w.alloc (.cells #[.int .u8 (b : Int)] 5)) (fun _ => False)) := (Fr.refl w (fun _ => False)).alloc _
  have CW := scanWord_any p s V c (w.alloc (.cells #[.int .u8 (b : Int)] 5)) (Hf1.out.kept H.out (fun h => h)) Hok.out Hs.out
  go_at_call 61
  refine CW.mono ?_
  rintro e w2 ⟨rfl, hr2, hf2⟩
  rw [← HO.out]
  rw [← HD.out] at hr2
  have Hr2 : Hid (LSc w2 p s D) := hr2
  have Hf2 : Hid (Fr w w2 (fun k => k = p)) := (Hf1.out.mono (fun _ _ h => h.elim)).trans hf2 (fun _ _ h => h)
  clear hr2 hf2 CW
  go_wp2_with fail
  go_ret
  exact ⟨rfl, Hr2.out, Hf2.out⟩

end Go.Proofs.YtnffjafddbbjaaaGreatDoor
