/-
  The number that a text begins with.
-/
import Derived.Test.YtnffjafddbbjaaaGreatDoorJ8
import Derived.Test.YtnffjafddbbjaaaGreatDoorQPar
namespace Go.Proofs.YtnffjafddbbjaaaGreatDoor
open Go.RowKit

/-- A number of up to most at the beginning of a text: the number, its length, the error. -/
def numR (L : ByteArray) (most : Nat) : Nat × Nat × Nat :=
  if L.size = 0 then (0, 0, 20) else if digN L 0 L.size = 0 ∨ (1 < digN L 0 L.size ∧ chAt L 0 = 48) then (0, 0, 21) else
    if decV L 0 0 0 (digN L 0 L.size) ≤ most then (decV L 0 0 0 (digN L 0 L.size), digN L 0 L.size, 0) else (0, 0, 22)
theorem decV_left (s : ByteArray) (p : Nat) : ∀ (k i v : Nat), decV (scLeft s p) 0 i v k = decV s p i v k
  | 0, _, _ => rfl
  | k + 1, i, v => by rw [decV, decV, Nat.zero_add, chAt_left, decV_left s p k]
theorem numR_val (s : ByteArray) (c : Sc) (most : Nat) (he : c.err = 0) (hp : c.pos ≤ s.size) : (numR (scLeft s c.pos) most).1 = scNumVal s most c := by
  have hz := left_pos s c.pos hp
  have h0 : digN s c.pos (s.size - c.pos) = scDigs s c := rfl
  unfold numR scNumVal
  rw [scDigs_left, if_pos he, decV_left, chAt_left, Nat.add_zero, numVal_dec s c.pos most _ 0 0 (Nat.zero_le _)]
  by_cases h1 : c.pos = s.size
  · have h2 : scDigs s c = 0 := by rw [← h0, show s.size - c.pos = 0 by omega]; rfl
    rw [if_pos (hz.2 h1), if_pos ⟨h2, h1⟩]
  · have hy : ¬ (scLeft s c.pos).size = 0 := fun h => h1 (hz.1 h)
    have hx : ¬ (scDigs s c = 0 ∧ c.pos = s.size) := fun h => h1 h.2
    rw [if_neg hy, if_neg hx]
    by_cases h2 : scDigs s c = 0 ∨ (1 < scDigs s c ∧ chAt s c.pos = 48)
    · rw [if_pos h2, if_pos h2]
    · rw [if_neg h2, if_neg h2]
      split <;> rfl
theorem numR_sc (s : ByteArray) (c : Sc) (most : Nat) (he : c.err = 0) (hp : c.pos ≤ s.size) : scNum s most c = if (numR (scLeft s c.pos) most).2.2 = 0 then scMove s c (numR (scLeft s c.pos) most).2.1 else scFail c (numR (scLeft s c.pos) most).2.2 := by
  have hz := left_pos s c.pos hp
  have h0 : digN s c.pos (s.size - c.pos) = scDigs s c := rfl
  unfold numR scNum scFail
  rw [scDigs_left, if_pos he, decV_left, chAt_left, Nat.add_zero, numVal_dec s c.pos most _ 0 0 (Nat.zero_le _), he]
  by_cases h1 : c.pos = s.size
  · have h2 : scDigs s c = 0 := by rw [← h0, show s.size - c.pos = 0 by omega]; rfl
    rw [if_pos (hz.2 h1), if_pos ⟨h2, h1⟩]
    rfl
  · have hy : ¬ (scLeft s c.pos).size = 0 := fun h => h1 (hz.1 h)
    have hx : ¬ (scDigs s c = 0 ∧ c.pos = s.size) := fun h => h1 h.2
    rw [if_neg hy, if_neg hx]
    by_cases h2 : scDigs s c = 0 ∨ (1 < scDigs s c ∧ chAt s c.pos = 48)
    · rw [if_pos h2, if_pos h2]
      rfl
    · rw [if_neg h2, if_neg h2]
      split <;> rfl
theorem numR_size (L : ByteArray) (most : Nat) : (numR L most).2.1 ≤ L.size := by
  unfold numR
  split
  · exact Nat.zero_le _
  · split
    · exact Nat.zero_le _
    · split
      · exact digN_le L L.size 0
      · exact Nat.zero_le _
theorem numR_err (L : ByteArray) (most : Nat) : (numR L most).2.2 = 0 ∨ (numR L most).2.2 = 20 ∨ (numR L most).2.2 = 21 ∨ (numR L most).2.2 = 22 := by
  unfold numR
  split
  · exact .inr (.inl rfl)
  · split
    · exact .inr (.inr (.inl rfl))
    · split
      · exact .inl rfl
      · exact .inr (.inr (.inr rfl))
theorem numR_zero (L : ByteArray) (most : Nat) (h : (numR L most).2.2 ≠ 0) : (numR L most).1 = 0 := by
  revert h
  unfold numR
  split
  · exact fun _ => rfl
  · split
    · exact fun _ => rfl
    · split
      · exact fun h => absurd rfl h
      · exact fun _ => rfl

set_option maxRecDepth 4000 in
set_option maxHeartbeats 1600000 in
theorem number_any (L : ByteArray) (most : Nat) (w : World) (hK : KVar w) (hs : L.size ≤ 1000000000) (hm : most < 18446744073709551616) : Calls Tryz.prog 96 #[.string L, .int .u64 (most : Int)] w fun e w' => e = .returned (.tuple #[.int .u64 ((numR L most).1 : Int), .int .i64 ((numR L most).2.1 : Int), .int .i64 ((numR L most).2.2 : Int)]) ∧ Fr w w' (fun _ => False) := by
  obtain ⟨D, hD⟩ : ∃ D, D = digN L 0 L.size := ⟨_, rfl⟩
  obtain ⟨R, hR⟩ : ∃ R, R = numR L most := ⟨_, rfl⟩
  have HR : Hid (R = if L.size = 0 then (0, 0, 20) else if D = 0 ∨ (1 < D ∧ chAt L 0 = 48) then (0, 0, 21) else if decV L 0 0 0 D ≤ most then (decV L 0 0 0 D, D, 0) else (0, 0, 22)) := by show _ = _; rw [hR, hD]; rfl
  rw [← hR]
  have hdig := digits_any L w hs
  rw [← hD] at hdig
  have hDle : D ≤ L.size := by rw [hD]; exact digN_le L L.size 0
  have Hdig : Hid (∀ j, j < D → isDig (chAt L j) = true) := by
    show ∀ j, _
    rw [hD]
    intro j hj
    have := digN_dig L L.size 0 j hj
    rwa [Nat.zero_add] at this
  have HK : Hid (KVar w) := hK
  clear hR hD hK
  by_cases hz : L.size = 0
  · have HR2 : Hid (R = (0, 0, 20)) := by show _ = _; rw [HR.out, if_pos hz]
    have hemp : L.toList.isEmpty = true := by
      rw [← decide_eq_emptyBytes]
      refine decide_eq_true (bytes_ext ?_)
      have h2 : L.data.toList.length = 0 := by rw [← Lib.size_eq]; exact hz
      rw [List.eq_nil_of_length_eq_zero h2]; rfl
    obtain rfl := HR2.out
    clear HR HR2
    go_enter Tryz.func96, Tryz.ntmps96
    go_wp2_with fail
    refine hdig.mono ?_
    rintro e w1 ⟨rfl, hf⟩
    have Hf : Hid (Fr w w1 (fun _ => False)) := hf
    clear hf
    go_wp2_with fail
    go_ret3
    exact ⟨rfl, Hf.out⟩
  have hLs : 0 < L.size := by omega
  have hne : L ≠ ⟨#[]⟩ := fun e => by rw [e] at hLs; exact absurd hLs (by decide)
  have hemp : L.toList.isEmpty = false := by
    rw [← decide_eq_emptyBytes]
    exact decide_eq_false hne
  have hidx : ∀ z, (Instr.index 9 (.string L) (.int .i64 0)).run Tryz.prog z = .ok (.int .u8 (chAt L 0 : Int)) z := fun z => index_any L 0 hLs z
  by_cases hd : D = 0 ∨ (1 < D ∧ chAt L 0 = 48)
  · have HR2 : Hid (R = (0, 0, 21)) := by show _ = _; rw [HR.out, if_neg hz, if_pos hd]
    obtain rfl := HR2.out
    clear HR HR2
    rcases hd with hd | ⟨hd1, hd2⟩
    · subst hd
      clear Hdig hidx hne hz
      go_enter Tryz.func96, Tryz.ntmps96
      go_wp2_with fail
      refine hdig.mono ?_
      rintro e w1 ⟨rfl, hf⟩
      have Hf : Hid (Fr w w1 (fun _ => False)) := hf
      clear hf
      go_wp2_with fail
      go_ret3
      exact ⟨rfl, Hf.out⟩
    · rw [hd2] at hidx
      have g1 : (1 : Int) < (D : Int) := by omega
      have g2 : ((D : Int) == 0) = false := by rw [beq_eq_false_iff_ne]; omega
      have g2' : (D == 0) = false := by rw [beq_eq_false_iff_ne]; omega
      clear Hdig hne hz
      go_enter Tryz.func96, Tryz.ntmps96
      go_wp2_with fail
      refine hdig.mono ?_
      rintro e w1 ⟨rfl, hf⟩
      have Hf : Hid (Fr w w1 (fun _ => False)) := hf
      clear hf
      go_wp2_with fail
      go_ret3
      exact ⟨rfl, Hf.out⟩
  have HR2 : Hid (R = if decV L 0 0 0 D ≤ most then (decV L 0 0 0 D, D, 0) else (0, 0, 22)) := by show _ = _; rw [HR.out, if_neg hz, if_neg hd]
  have hD0 : D ≠ 0 := fun h => hd (.inl h)
  have g2 : ((D : Int) == 0) = false := by rw [beq_eq_false_iff_ne]; omega
  have g2' : (D == 0) = false := by rw [beq_eq_false_iff_ne]; omega
  have hch : 1 < D → chAt L 0 ≠ 48 := fun h1 h2 => hd (.inr ⟨h1, h2⟩)
  obtain ⟨t, ht⟩ : ∃ t, t = L.extract 0 D := ⟨_, rfl⟩
  have Ht : Hid (t.size ≤ 1000000000) := by show _ ≤ _; rw [ht, extract_size L D hDle]; omega
  have Hpar : Hid (Lib.parseUintB 64 t.data.toList = if decV L 0 0 0 D ≤ 18446744073709551615 then .ok (decV L 0 0 0 D) else .range) := by
    show _ = _
    have h1 := parse_dec L 0 D 0 0 (fun j hj => by rw [Nat.zero_add, Nat.zero_add]; exact Hdig.out j hj) (by omega) (Nat.zero_le _)
    rw [Nat.zero_add, List.drop_zero] at h1
    have h2 : t.data.toList = L.data.toList.take D := by rw [ht, extract_list, List.drop_zero, Nat.sub_zero]
    have h3 : t.data.toList ≠ [] := fun e => by
      have h4 : t.size = 0 := by rw [Lib.size_eq, e]; rfl
      rw [ht, extract_size L D hDle] at h4
      exact hD0 h4
    unfold Lib.parseUintB
    rw [if_neg h3, h2, show (2 : Nat) ^ 64 - 1 = 18446744073709551615 by decide]
    exact h1
  have g5 : (0 : Int) ≤ (D : Int) := by omega
  have g6 : (D : Int) ≤ (L.size : Int) := by omega
  clear Hdig hne hz HR hd
  generalize decV L 0 0 0 D = V at Hpar HR2
  generalize chAt L 0 = b at hidx hch
  have hor : (D : Int) ≤ 1 ∧ ¬ (1 : Int) < (D : Int) ∨ (1 : Int) < (D : Int) ∧ ((b : Int) == 48) = false ∧ (b == 48) = false := by
    by_cases h : 1 < D
    · exact .inr ⟨by omega, by rw [beq_eq_false_iff_ne]; have := hch h; omega, by rw [beq_eq_false_iff_ne]; exact hch h⟩
    · exact .inl ⟨by omega, by omega⟩
  clear hch
  by_cases hV : V ≤ 18446744073709551615
  · have hp := fun z => parse_ok t Ht.out V (by rw [Hpar.out, if_pos hV]) z
    by_cases hVm : V ≤ most
    · have HR3 : Hid (R = (V, D, 0)) := by show _ = _; rw [HR2.out, if_pos hVm]
      obtain rfl := HR3.out
      have g7 : ¬ (most : Int) < (V : Int) := by omega
      have g7' : decide (most < V) = false := decide_eq_false (by omega)
      clear Hpar HR2 HR3 hV
      rcases hor with ⟨g3, g4⟩ | ⟨g3, g4, g4'⟩
      all_goals
        go_enter Tryz.func96, Tryz.ntmps96
        go_wp2_with fail
        refine hdig.mono ?_
        rintro e w1 ⟨rfl, hf⟩
        have Hf : Hid (Fr w w1 (fun _ => False)) := hf
        clear hf
        go_wp2_with fail
        rw [← ht]
        refine (hp w1).mono ?_
        rintro e w2 ⟨rfl, hf2⟩
        have Hf2 : Hid (Fr w w2 (fun _ => False)) := Hf.out.none hf2
        clear hf2
        go_wp2_with fail
        go_ret3
        exact ⟨rfl, Hf2.out⟩
    · have HR3 : Hid (R = (0, 0, 22)) := by show _ = _; rw [HR2.out, if_neg hVm]
      obtain rfl := HR3.out
      have g7 : (most : Int) < (V : Int) := by omega
      have g7' : decide (most < V) = true := decide_eq_true (by omega)
      clear Hpar HR2 HR3 hV
      rcases hor with ⟨g3, g4⟩ | ⟨g3, g4, g4'⟩
      all_goals
        go_enter Tryz.func96, Tryz.ntmps96
        go_wp2_with fail
        refine hdig.mono ?_
        rintro e w1 ⟨rfl, hf⟩
        have Hf : Hid (Fr w w1 (fun _ => False)) := hf
        clear hf
        go_wp2_with fail
        rw [← ht]
        refine (hp w1).mono ?_
        rintro e w2 ⟨rfl, hf2⟩
        have Hf2 : Hid (Fr w w2 (fun _ => False)) := Hf.out.none hf2
        clear hf2
        go_wp2_with fail
        go_ret3
        exact ⟨rfl, Hf2.out⟩
  · have hp := fun z hz => parse_range t Ht.out (by rw [Hpar.out, if_neg hV]) z hz
    have HR3 : Hid (R = (0, 0, 22)) := by show _ = _; rw [HR2.out, if_neg (by omega)]
    obtain rfl := HR3.out
    clear Hpar HR2 HR3 hV
    rcases hor with ⟨g3, g4⟩ | ⟨g3, g4, g4'⟩
    all_goals
      go_enter Tryz.func96, Tryz.ntmps96
      go_wp2_with fail
      refine hdig.mono ?_
      rintro e w1 ⟨rfl, hf⟩
      have Hf : Hid (Fr w w1 (fun _ => False)) := hf
      clear hf
      go_wp2_with fail
      rw [← ht]
      refine (hp w1 (HK.out.keep Hf.out)).mono ?_
      rintro e w2 ⟨⟨k, rfl⟩, hf2⟩
      have Hf2 : Hid (Fr w w2 (fun _ => False)) := Hf.out.none hf2
      clear hf2
      go_wp2_with fail
      go_ret3
      exact ⟨rfl, Hf2.out⟩

end Go.Proofs.YtnffjafddbbjaaaGreatDoor
