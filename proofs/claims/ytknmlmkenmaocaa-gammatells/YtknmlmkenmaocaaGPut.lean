/-
  The contracts of Put and Size of package gamma, and of the function behind; at most 10^10 bits held before.
-/
import Derived.Test.YtknmlmkenmaocaaGMath
import Derived.Deep.LoopGhost
namespace Go.Proofs.Ytknmlmkenmaocaa
open Go.RowKit

set_option maxHeartbeats 800000 in
theorem behind_any (v : Nat) (w : World) (hv : v < 18446744073709551616) :
    Calls Try.prog 23 #[.int .u64 (v : Int)] w fun e w' => e = .returned (.int .i64 (hi v : Nat)) ∧ w' = w := by
  have h63 := hi_63 v hv
  go_enter Try.func23, Try.ntmps23
  go_wp2_with fail
  go_loopg [0, 3] 64 (fun g x n wr => ∃ u k : Nat, g = 64 - k ∧ x = .int .u64 (u : Int) ∧ n = .int .i64 (k : Int) ∧ u < 18446744073709551616 ∧ hi v = k + hi u ∧ wr = w)
  case atStart => exact ⟨v, 0, rfl, rfl, rfl, hv, by omega, rfl⟩
  case round =>
    obtain ⟨u, k, rfl, rfl, rfl, hu, hk, rfl⟩ := hrel
    by_cases h1 : 1 < u
    · have hs := hi_step u h1
      have Hs : Hid (hi v = (k + 1) + hi (u / 2)) := by show _ = _; omega
      have hk63 : k + 1 ≤ 63 := by omega
      clear hs hk
      go_wp2
      go_roundg (64 - (k + 1))
      case rel => exact ⟨u / 2, k + 1, rfl, by go_num, by go_num, by omega, Hs.out, rfl⟩
      case measure => omega
    · have hs := hi_small u (by omega)
      have Hs : Hid (hi v = k) := by show _ = _; omega
      clear hs hk
      go_wp2
      go_ret
      exact ⟨by rw [Hs.out]; rfl, rfl⟩

set_option maxHeartbeats 800000 in
theorem gsize_any (v : Nat) (w : World) (hv : v < 18446744073709551616) :
    Calls Try.prog 12 #[.int .u64 (v : Int)] w fun e w' => e = .returned (.int .i64 (gsize v : Nat)) ∧ w' = w := by
  have h63 := hi_63 v hv
  by_cases h0 : v = 0
  · have hz : ((v : Int) == 0) = true := by simp [h0]
    have hg : gsize v = 0 := by unfold gsize; rw [if_pos h0]
    clear h0
    go_enter Try.func12, Try.ntmps12
    go_wp2
    go_ret
    exact ⟨by rw [hg]; rfl, rfl⟩
  · have hz : ((v : Int) == 0) = false := by simp [h0]
    have hg : gsize v = 2 * hi v + 1 := by unfold gsize; rw [if_neg h0]
    have Hg : Hid _ := hg
    clear h0 hg
    go_enter Try.func12, Try.ntmps12
    go_wp2_with fail
    refine (behind_any v _ hv).mono ?_
    rintro e w' ⟨rfl, rfl⟩
    go_wp2
    go_ret
    refine ⟨?_, rfl⟩
    rw [Hg.out]
    go_num

set_option maxHeartbeats 800000 in
theorem gput_any (p : Nat) (sv : Value) (l : List Bool) (v : Nat) (w : World) (h : Wr w p sv l) (hn : l.length ≤ 10000000000) (hv : v < 18446744073709551616) :
    Calls Try.prog 9 #[.pointer (some ⟨p, 0, none⟩), .int .u64 (v : Int)] w fun e w' => e = .returned (.tuple #[]) ∧
      ∃ sv', Wr w' p sv' (l ++ gbits v) ∧ Fr w w' (foot p sv) ∧ Moved w sv sv' := by
  have h63 := hi_63 v hv
  by_cases h0 : v = 0
  · have hz : ((v : Int) == 0) = true := by simp [h0]
    have hg : gbits v = [] := by unfold gbits; rw [if_pos h0]
    clear h0
    go_enter Try.func9, Try.ntmps9
    go_wp2
    (try simp only [Exit.inBlock, Exit.then])
    refine bodyPost_ret (results_none rfl _ _ _) rfl ?_
    exact ⟨rfl, sv, by rw [hg, List.append_nil]; exact h, Fr.refl _ _, Moved.refl _ _⟩
  · have hz : ((v : Int) == 0) = false := by simp [h0]
    have hg : gbits v = putBits 0 (hi v) ++ putBits v (hi v + 1) := by unfold gbits; rw [if_neg h0]
    have Hg : Hid _ := hg
    clear h0 hg
    go_enter Try.func9, Try.ntmps9
    go_wp2_with fail
    refine (behind_any v _ hv).mono ?_
    rintro e w' ⟨rfl, rfl⟩
    generalize hi v = m at *
    go_wp2_with fail
    refine (put_any p sv l 0 (m : Int) _ h (by omega) (by omega)).mono ?_
    rintro e w1 ⟨rfl, sv1, hw1, hf1, hm1⟩
    rw [show wide (m : Int) = m by unfold wide; omega] at hw1
    go_wp2_with fail
    refine (put_any p sv1 _ v ((m : Int) + 1) _ hw1 (by rw [List.length_append, length_putBits]; omega) hv).mono ?_
    rintro e w2 ⟨rfl, sv2, hw2, hf2, hm2⟩
    rw [show wide ((m : Int) + 1) = m + 1 by unfold wide; omega] at hw2
    go_wp2
    go_end0
    exact ⟨rfl, sv2, by rw [Hg.out, ← List.append_assoc]; exact hw2, hf1.foot_trans hf2 hm1, hm1.trans hm2 hf1.size⟩

end Go.Proofs.Ytknmlmkenmaocaa
