/-
  The walk of the law GammaSizes: called with whatever arguments, it returns true and touches nothing that was there. No condition.
-/
import Derived.Test.YtknmlmkenmaocaaRows
import Derived.Test.YtknmlmkenmaocaaKnown
namespace Go.Proofs.Ytknmlmkenmaocaa.gammaSizes
open Go.ChangeShapes Go.WideShapes Go.ChangeAt Go.RowKit

theorem shr_le (a s : Nat) : ∃ X : Nat, (a : Int) / 2 ^ s = (X : Int) ∧ X ≤ a := ⟨a / 2 ^ s, by simp, Nat.div_le_self _ _⟩

set_option maxRecDepth 4000 in
set_option maxHeartbeats 800000 in
theorem walk (a0 : Int) (a1 : Int) (a2 : Int) (a3 : Int) (w0 : (Lit.int .u64 a0).wf = true) (w1 : (Lit.int .u64 a1).wf = true) (w2 : (Lit.int .u8 a2).wf = true) (w3 : (Lit.int .u8 a3).wf = true) (w : World) :
    Calls Try.prog 5 #[.int .u64 a0, .int .u64 a1, .int .u8 a2, .int .u8 a3] w fun e w' => e = .returned (.bool true) ∧ Below w.heap.size w w' := by
  obtain ⟨hb0, hb0'⟩ := bounds_u64 w0
  obtain ⟨hb1, hb1'⟩ := bounds_u64 w1
  obtain ⟨hb2, hb2'⟩ := bounds_u8 w2
  obtain ⟨hb3, hb3'⟩ := bounds_u8 w3
  obtain ⟨a, rfl⟩ := Int.eq_ofNat_of_zero_le hb0
  obtain ⟨b, rfl⟩ := Int.eq_ofNat_of_zero_le hb1
  obtain ⟨s, rfl⟩ := Int.eq_ofNat_of_zero_le hb2
  obtain ⟨t, rfl⟩ := Int.eq_ofNat_of_zero_le hb3
  obtain ⟨X, hXe, hX1⟩ := shr_le a (s % 64)
  obtain ⟨Y, hYe, hY1⟩ := shr_le b (t % 64)
  have hX2 : X < 18446744073709551616 := by omega
  have hY2 : Y < 18446744073709551616 := by omega
  clear w0 w1 w2 w3 hb0 hb1 hb2 hb3 hb0' hb1' hX1 hY1
  go_enter Try.func5, Try.ntmps5
  go_wp2_with fail
  refine (known_any w).mono ?_
  rintro e wa ⟨rfl, hf1⟩
  by_cases hxy : Y < X
  · skip
    go_wp2_with fail
    rw [hXe, hYe]
    go_loopg [11, 12] 64 (fun g n v wr => ∃ k u : Nat, g = 64 - k ∧ n = .int .i64 (k : Int) ∧ v = .int .u64 (u : Int) ∧ u < 18446744073709551616 ∧ hi X = k + hi u ∧ wr = wa)
    case atStart => exact ⟨0, X, rfl, rfl, rfl, hX2, by omega, rfl⟩
    case round =>
      obtain ⟨k, u, rfl, rfl, rfl, hu, hk, rfl⟩ := hrel
      have h63 := hi_63 X hX2
      by_cases h1 : 1 < u
      · have hs := hi_step u h1
        have Hs : Hid (hi X = (k + 1) + hi (u / 2)) := by show _ = _; omega
        have hk63 : k + 1 ≤ 63 := by omega
        clear hs hk
        go_wp2
        go_roundg (64 - (k + 1))
        case rel => exact ⟨k + 1, u / 2, rfl, by go_num, by go_num, by omega, Hs.out, rfl⟩
        case measure => omega
      · have hs := hi_small u (by omega)
        have Hs : Hid (hi X = k) := by show _ = _; omega
        have hk63 : k ≤ 63 := by omega
        clear hs hk h63
        have hmo := gsize_mono Y X (by omega)
        go_wp2_with fail
        refine (gsize_any Y _ hY2).mono ?_
        rintro e w' ⟨rfl, rfl⟩
        go_wp2_with fail
        refine (gsize_any X _ hX2).mono ?_
        rintro e w' ⟨rfl, rfl⟩
        by_cases hy0 : X = 0
        · have hz : ((X : Int) == 0) = true := by simp [hy0]
          have hz' : (X == 0) = true := by simp [hy0]
          have hd : decide ((gsize Y : Int) ≤ (gsize X : Int)) = true := decide_eq_true (by omega)
          have hg : gsize X = 0 := by unfold gsize; rw [if_pos hy0]
          have Hg : Hid _ := hg
          clear hy0 hg
          go_wp2_with fail
          refine (gsize_any X _ hX2).mono ?_
          rintro e w' ⟨rfl, rfl⟩
          rw [Hg.out]
          go_wp2
          go_ret
          exact ⟨rfl, hf1.below (Nat.le_refl _) (fun _ h => h.elim)⟩
        · have hz : ((X : Int) == 0) = false := by simp [hy0]
          have hz' : (X == 0) = false := by simp [hy0]
          have hd : decide ((gsize Y : Int) ≤ (gsize X : Int)) = true := decide_eq_true (by omega)
          have hg : gsize X = 2 * k + 1 := by unfold gsize; rw [if_neg hy0, Hs.out]
          have Hg : Hid _ := hg
          have hyp : 0 < X := by omega
          clear hy0 hg
          go_wp2_with fail
          refine (gsize_any X _ hX2).mono ?_
          rintro e w' ⟨rfl, rfl⟩
          rw [Hg.out]
          go_wp2
          go_ret
          exact ⟨rfl, hf1.below (Nat.le_refl _) (fun _ h => h.elim)⟩
  · have hxyd : decide ((Y : Int) < (X : Int)) = false := decide_eq_false (by omega)
    have hxyd' : decide (Y < X) = false := decide_eq_false (by omega)
    go_wp2_with fail
    rw [hXe, hYe]
    go_loopg [11, 12] 64 (fun g n v wr => ∃ k u : Nat, g = 64 - k ∧ n = .int .i64 (k : Int) ∧ v = .int .u64 (u : Int) ∧ u < 18446744073709551616 ∧ hi Y = k + hi u ∧ wr = wa)
    case atStart => exact ⟨0, Y, rfl, rfl, rfl, hY2, by omega, rfl⟩
    case round =>
      obtain ⟨k, u, rfl, rfl, rfl, hu, hk, rfl⟩ := hrel
      have h63 := hi_63 Y hY2
      by_cases h1 : 1 < u
      · have hs := hi_step u h1
        have Hs : Hid (hi Y = (k + 1) + hi (u / 2)) := by show _ = _; omega
        have hk63 : k + 1 ≤ 63 := by omega
        clear hs hk
        go_wp2
        go_roundg (64 - (k + 1))
        case rel => exact ⟨k + 1, u / 2, rfl, by go_num, by go_num, by omega, Hs.out, rfl⟩
        case measure => omega
      · have hs := hi_small u (by omega)
        have Hs : Hid (hi Y = k) := by show _ = _; omega
        have hk63 : k ≤ 63 := by omega
        clear hs hk h63
        have hmo := gsize_mono X Y (by omega)
        go_wp2_with fail
        refine (gsize_any X _ hX2).mono ?_
        rintro e w' ⟨rfl, rfl⟩
        go_wp2_with fail
        refine (gsize_any Y _ hY2).mono ?_
        rintro e w' ⟨rfl, rfl⟩
        by_cases hy0 : Y = 0
        · have hz : ((Y : Int) == 0) = true := by simp [hy0]
          have hz' : (Y == 0) = true := by simp [hy0]
          have hd : decide ((gsize X : Int) ≤ (gsize Y : Int)) = true := decide_eq_true (by omega)
          have hg : gsize Y = 0 := by unfold gsize; rw [if_pos hy0]
          have Hg : Hid _ := hg
          clear hy0 hg
          go_wp2_with fail
          refine (gsize_any Y _ hY2).mono ?_
          rintro e w' ⟨rfl, rfl⟩
          rw [Hg.out]
          go_wp2
          go_ret
          exact ⟨rfl, hf1.below (Nat.le_refl _) (fun _ h => h.elim)⟩
        · have hz : ((Y : Int) == 0) = false := by simp [hy0]
          have hz' : (Y == 0) = false := by simp [hy0]
          have hd : decide ((gsize X : Int) ≤ (gsize Y : Int)) = true := decide_eq_true (by omega)
          have hg : gsize Y = 2 * k + 1 := by unfold gsize; rw [if_neg hy0, Hs.out]
          have Hg : Hid _ := hg
          have hyp : 0 < Y := by omega
          clear hy0 hg
          go_wp2_with fail
          refine (gsize_any Y _ hY2).mono ?_
          rintro e w' ⟨rfl, rfl⟩
          rw [Hg.out]
          go_wp2
          go_ret
          exact ⟨rfl, hf1.below (Nat.le_refl _) (fun _ h => h.elim)⟩

end Go.Proofs.Ytknmlmkenmaocaa.gammaSizes
