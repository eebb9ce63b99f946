/-
  The walk of the law VarintShorts: called with whatever arguments, it returns true and touches nothing that was there. No condition.
-/
import Derived.Test.YtimegheijfnkaaaKnown
namespace Go.Proofs.Ytimegheijfnkaaa.varintShorts
open Go.ChangeShapes Go.WideShapes Go.ChangeAt Go.RowKit

set_option maxRecDepth 4000 in
set_option maxHeartbeats 3200000 in
theorem walk (a0 : Int) (a1 : Int) (a2 : Int) (a3 : Int) (w0 : (Lit.int .u64 a0).wf = true) (w1 : (Lit.int .u8 a1).wf = true) (w2 : (Lit.int .u8 a2).wf = true) (w3 : (Lit.int .u64 a3).wf = true) (w : World) :
    Calls Try.prog 7 #[.int .u64 a0, .int .u8 a1, .int .u8 a2, .int .u64 a3] w fun e w' => e = .returned (.bool true) ∧ Below w.heap.size w w' := by
  obtain ⟨hb0, hb0'⟩ := bounds_u64 w0
  obtain ⟨hb1, hb1'⟩ := bounds_u8 w1
  obtain ⟨hb2, hb2'⟩ := bounds_u8 w2
  obtain ⟨hb3, hb3'⟩ := bounds_u64 w3
  obtain ⟨n, rfl⟩ := Int.eq_ofNat_of_zero_le hb0
  obtain ⟨s, rfl⟩ := Int.eq_ofNat_of_zero_le hb1
  obtain ⟨c, rfl⟩ := Int.eq_ofNat_of_zero_le hb2
  obtain ⟨m, rfl⟩ := Int.eq_ofNat_of_zero_le hb3
  clear hb0 hb1 hb2 hb3 w0 w1 w2 w3
  go_enter Try.func7, Try.ntmps7
  go_wp2_with fail
  refine (known_any w).mono ?_
  rintro e wa ⟨rfl, hf1⟩
  go_wp2_with fail
  obtain ⟨X, hX, hX2⟩ : ∃ X : Nat, (n : Int) / 2 ^ (s % 64) = (X : Int) ∧ X < 18446744073709551616 := by
    refine ⟨n / 2 ^ (s % 64), by simp, Nat.lt_of_le_of_lt (Nat.div_le_self _ _) (by omega)⟩
  rw [hX]
  clear hX
  refine (puts_any _ [X, X] _ (holds_lit wa 24 [.int .u64 (X : Int), .int .u64 (X : Int)] (by simp)) (by simpa using hX2) (by simp)).mono ?_
  rintro e wb ⟨sv, rfl, ho, hf, -⟩
  have hf2 := (hf1.alloc (.cells #[.int .u64 (X : Int), .int .u64 (X : Int)] 24)).none hf
  have hee : encs [X, X] = enc X ++ enc X := by simp [encs]
  rw [hee] at ho
  have hr := ho.reads
  obtain ⟨L, hL⟩ : ∃ L, L = (enc X).length := ⟨_, rfl⟩
  have hL1 := enc_pos X
  have hL2 := enc_le X hX2
  rw [← hL] at hL1 hL2
  obtain ⟨ao, cap, rfl, hlc, -⟩ := id hr
  have hll : (row .u8 (enc X ++ enc X)).length = 2 * L := by rw [length_row, List.length_append, ← hL]; omega
  rw [hll] at hr hlc ⊢
  have HL : Hid _ := hL
  have Hr : Hid (Reads .u8 wb (.slice ao (2 * L) cap) (enc X ++ enc X)) := hr
  clear hf1 hf hee ho hL hll hr
  go_wp2_with fail
  refine (size_any X wb hX2).mono ?_
  rw [← HL.out]
  rintro e w' ⟨rfl, rfl⟩
  go_wp2_with fail
  refine (take_any _ [] m w' ⟨none, 0, rfl, Nat.le_refl _, fun h => by simp [row] at h⟩ (by simp) (by simp) (by omega)).mono ?_
  rw [show took [] m = (0, 0, 20) from rfl]
  rintro e w' ⟨rfl, rfl⟩
  obtain ⟨K, hK⟩ : ∃ K, K = c % L := ⟨_, rfl⟩
  have hcm : (c : Int) % (L : Int) = (K : Int) := by rw [hK]; simp
  have hKL : K < L := by rw [hK]; exact Nat.mod_lt _ hL1
  clear hK
  have Ht1 : Hid (took ((enc X ++ enc X).take K) m = (0, 0, 20)) := took_cut X K m hX2 (by rw [← HL.out]; exact hKL) _
  have Ht2 : Hid (took ((enc X ++ enc X).take (L + K)) 18446744073709551615 = (X, L, 0)) := by
    show _ = _
    rw [HL.out, List.take_length_add_append]
    exact took_enc X _ _ hX2 (by omega)
  have Hb : Hid (∀ k, ∀ x ∈ (enc X ++ enc X).take k, x < 256) := fun k x hx => by
    have := List.mem_of_mem_take hx
    rcases List.mem_append.1 this with h | h
    · exact enc_bytes X x h
    · exact enc_bytes X x h
  have Hl : Hid (∀ k, ((enc X ++ enc X).take k).length ≤ 1000000000) := fun k => by
    rw [List.length_take, List.length_append, ← HL.out]
    omega
  have hr1 : Reads .u8 w' (.slice ao K cap) ((enc X ++ enc X).take K) := by
    have := Holds.take Hr.out K (by omega) cap (by omega)
    rwa [← row_take] at this
  have hr2 : Reads .u8 w' (.slice ao (L + K) cap) ((enc X ++ enc X).take (L + K)) := by
    have := Holds.take Hr.out (L + K) (by omega) cap (by omega)
    rwa [← row_take] at this
  go_wp2_with fail
  refine (take_any _ _ m w' hr1 (Hb.out _) (Hl.out _) (by omega)).mono ?_
  rw [Ht1.out]
  rintro e w' ⟨rfl, rfl⟩
  go_wp2_with fail
  refine (take_any _ _ 18446744073709551615 w' hr2 (Hb.out _) (Hl.out _) (by omega)).mono ?_
  rw [Ht2.out]
  rintro e w' ⟨rfl, rfl⟩
  go_wp2
  go_ret
  exact ⟨rfl, hf2.below (Nat.le_refl _) (fun _ h => h.elim)⟩

end Go.Proofs.Ytimegheijfnkaaa.varintShorts
