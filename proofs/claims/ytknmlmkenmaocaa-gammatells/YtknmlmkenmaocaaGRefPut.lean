/-
  The contracts of the reference's GammaPut and GammaSize, and of its length; at most 10^10 bits held before.
-/
import Derived.Test.YtknmlmkenmaocaaGPut
import Derived.Test.YtknmlmkenmaocaaBRefPut
namespace Go.Proofs.Ytknmlmkenmaocaa
open Go.RowKit

/-- How many bits a number has. -/
def bitlen (v : Nat) : Nat := if v = 0 then 0 else hi v + 1
theorem bitlen_step (v : Nat) (h : 0 < v) : bitlen v = bitlen (v / 2) + 1 := by
  unfold bitlen
  rw [if_neg (by omega)]
  by_cases h1 : 1 < v
  · rw [if_neg (by omega), hi_step v h1]
  · rw [if_pos (by omega), hi_small v (by omega)]
theorem bitlen_64 (v : Nat) (h : v < 18446744073709551616) : bitlen v ≤ 64 := by
  have := hi_63 v h
  unfold bitlen; split <;> omega

set_option maxHeartbeats 800000 in
theorem length_any (v : Nat) (w : World) (hv : v < 18446744073709551616) :
    Calls Try.prog 24 #[.int .u64 (v : Int)] w fun e w' => e = .returned (.int .i64 (bitlen v : Nat)) ∧ w' = w := by
  have h64 := bitlen_64 v hv
  go_enter Try.func24, Try.ntmps24
  go_wp2_with fail
  go_loopg [0, 3] 65 (fun g x n wr => ∃ u k : Nat, g = 65 - k ∧ x = .int .u64 (u : Int) ∧ n = .int .i64 (k : Int) ∧ u < 18446744073709551616 ∧ bitlen v = k + bitlen u ∧ wr = w)
  case atStart => exact ⟨v, 0, rfl, rfl, rfl, hv, by omega, rfl⟩
  case round =>
    obtain ⟨u, k, rfl, rfl, rfl, hu, hk, rfl⟩ := hrel
    by_cases h1 : 0 < u
    · have hs := bitlen_step u h1
      have Hs : Hid (bitlen v = (k + 1) + bitlen (u / 2)) := by show _ = _; omega
      have hk63 : k + 1 ≤ 64 := by omega
      clear hs hk
      go_wp2
      go_roundg (65 - (k + 1))
      case rel => exact ⟨u / 2, k + 1, rfl, by go_num, by go_num, by omega, Hs.out, rfl⟩
      case measure => omega
    · have hs : bitlen u = 0 := by unfold bitlen; rw [if_pos (by omega)]
      have Hs : Hid (bitlen v = k) := by show _ = _; omega
      clear hs hk
      go_wp2
      go_ret
      exact ⟨by rw [Hs.out]; rfl, rfl⟩

set_option maxHeartbeats 800000 in
theorem refGsize_any (v : Nat) (w : World) (hv : v < 18446744073709551616) :
    Calls Try.prog 13 #[.int .u64 (v : Int)] w fun e w' => e = .returned (.int .i64 (gsize v : Nat)) ∧ w' = w := by
  have h64 := bitlen_64 v hv
  have hg : ((gsize v : Nat) : Int) = max (2 * (bitlen v : Int) - 1) 0 := by
    unfold gsize bitlen
    split <;> omega
  have Hg : Hid _ := hg
  clear hg
  go_enter Try.func13, Try.ntmps13
  go_wp2_with fail
  refine (length_any v _ hv).mono ?_
  rintro e w' ⟨rfl, rfl⟩
  by_cases h0 : bitlen v = 0
  · rw [h0]
    go_wp2
    go_ret
    exact ⟨by rw [Hg.out, h0]; rfl, rfl⟩
  · go_wp2
    go_ret
    refine ⟨?_, rfl⟩
    rw [Hg.out, Int.max_eq_left (by omega)]
    rfl

set_option maxHeartbeats 800000 in
theorem refGput_any (p : Nat) (sv : Value) (l : List Bool) (v : Nat) (w : World) (h : RefWr w p sv l) (hn : l.length ≤ 10000000000) (hv : v < 18446744073709551616) :
    Calls Try.prog 10 #[.pointer (some ⟨p, 0, none⟩), .int .u64 (v : Int)] w fun e w' => e = .returned (.tuple #[]) ∧
      ∃ sv', RefWr w' p sv' (l ++ gbits v) ∧ Fr w w' (foot p sv) ∧ Moved w sv sv' := by
  have h63 := hi_63 v hv
  by_cases h0 : v = 0
  · have hb : bitlen v = 0 := by unfold bitlen; rw [if_pos h0]
    have hg : gbits v = [] := by unfold gbits; rw [if_pos h0]
    clear h0
    go_enter Try.func10, Try.ntmps10
    go_wp2_with fail
    refine (length_any v _ hv).mono ?_
    rintro e w' ⟨rfl, rfl⟩
    rw [hb]
    go_wp2
    go_end0
    exact ⟨rfl, sv, by rw [hg, List.append_nil]; exact h, Fr.refl _ _, Moved.refl _ _⟩
  · have hb : bitlen v = hi v + 1 := by unfold bitlen; rw [if_neg h0]
    have hg : gbits v = putBits 0 (hi v) ++ putBits v (hi v + 1) := by unfold gbits; rw [if_neg h0]
    have Hg : Hid _ := hg
    clear h0 hg
    go_enter Try.func10, Try.ntmps10
    go_wp2_with fail
    refine (length_any v _ hv).mono ?_
    rintro e w' ⟨rfl, rfl⟩
    rw [hb]
    clear hb
    generalize hi v = m at *
    have e1 : IntKind.i64.wrap (((m + 1 : Nat) : Int) - 1) = (m : Int) := by rw [IntWalk.i64_in _ (by omega)]; omega
    go_wp2_with fail
    refine (refPut_any p sv l 0 (m : Int) _ h (by omega) (by omega)).mono ?_
    rintro e w1 ⟨rfl, sv1, hw1, hf1, hm1⟩
    rw [show wide (m : Int) = m by unfold wide; omega] at hw1
    go_wp2_with fail
    refine (refPut_any p sv1 _ v ((m : Int) + 1) _ hw1 (by rw [List.length_append, length_putBits]; omega) hv).mono ?_
    rintro e w2 ⟨rfl, sv2, hw2, hf2, hm2⟩
    rw [show wide ((m : Int) + 1) = m + 1 by unfold wide; omega] at hw2
    go_wp2
    go_end0
    exact ⟨rfl, sv2, by rw [Hg.out, ← List.append_assoc]; exact hw2, hf1.foot_trans hf2 hm1, hm1.trans hm2 hf1.size⟩

end Go.Proofs.Ytknmlmkenmaocaa
