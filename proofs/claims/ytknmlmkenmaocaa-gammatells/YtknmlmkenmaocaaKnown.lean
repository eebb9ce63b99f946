/-
  The contract of the law's own first test, known: it returns true and touches nothing that was there.
-/
import Derived.Test.YtknmlmkenmaocaaGTake
namespace Go.Proofs.Ytknmlmkenmaocaa
open Go.RowKit

theorem known_str : strOf (pack ([] ++ gbits 5)) = { data := #[20] } := by decide +kernel
theorem known_rest : rest (pack ([] ++ gbits 5)) 0 = [false, false, true, false, true, false, false, false] := by decide +kernel
theorem known_rest0 : rest [0] 0 = [false, false, false, false, false, false, false, false] := by decide +kernel

set_option maxHeartbeats 1600000 in
theorem known_any (w : World) : Calls Try.prog 7 #[] w fun e w' => e = .returned (.bool true) ∧ Fr w w' (fun _ => False) := by
  go_enter Try.func7, Try.ntmps7
  go_wp2_with fail
  refine (newWriter_any w).mono ?_
  rintro e w1 ⟨rfl, hw1, hf1⟩
  obtain ⟨p, hp⟩ : ∃ p, p = w.heap.size := ⟨_, rfl⟩
  rw [← hp] at hw1 ⊢
  have hn1 : Newer w.heap.size p (.slice none 0 0) := by
    intro k hk
    rcases hk with rfl | hk
    · omega
    · simp [Value.ownBlock] at hk
  clear hp
  go_wp2_with fail
  refine (gput_any p _ [] 5 w1 hw1 (by simp) (by omega)).mono ?_
  rintro e w2 ⟨rfl, sv2, hw2, hf2, hm2⟩
  have hn2 := hn1.moved hm2 hf1.size
  replace hf2 := hf1.newer hf2 hn1
  clear hw1 hf1 hm2 hn1
  have hl5 : ([] ++ gbits 5).length = 5 := by decide +kernel
  go_wp2_with fail
  refine (bytesP_any p _ _ w2 hw2 (by rw [hl5]; omega)).mono ?_
  rintro e w3 ⟨v3, rfl, hv3, hw3, hf3⟩
  replace hf3 := hf2.none hf3
  clear hw2 hf2
  have hl1 : (pack ([] ++ gbits 5)).length = 1 := by decide +kernel
  go_wp2_with fail
  refine (newReader_any v3 _ w3 hv3.reads (by rw [hl1]; omega) (packs_pack _).small).mono ?_
  rintro e w4 ⟨q, sv4, rfl, hr4, hf4, hn4⟩
  have hap : ∀ k, foot p sv2 k → k ≠ q := fun k h1 h2 => by have := hn4 q (.inl rfl); have := hw3.lt k h1; omega
  have hqn : w.heap.size ≤ q := by have := hn4 q (.inl rfl); have := hf3.size; omega
  replace hw3 := hw3.frame hf4 (fun _ _ h => h)
  replace hf4 := hf3.none hf4
  clear hf3 hn4 hv3
  go_wp2_with fail
  refine (gtake_any q sv4 _ 0 w4 hr4).mono ?_
  rw [known_rest]
  have hgv : gval [false, false, true, false, true, false, false, false] = 5 := by decide +kernel
  have hgo : gok [false, false, true, false, true, false, false, false] = true := by decide +kernel
  rw [hgv, hgo]
  rintro e w5 ⟨rfl, hr5, hf5⟩
  replace hw3 := hw3.frame hf5 (fun k h1 h2 => hap k h1 h2)
  replace hf5 := hf4.newer1 hf5 hqn
  clear hf4 hr4 hr5 hgv hgo hap
  go_wp2_with fail
  have hrd : Rds (w5.alloc (.cells #[.int .u8 0] 5)) (.slice (some ⟨w5.heap.size, 0, none⟩) 1 1) [0] :=
    rds_own (bs := [0]) (World.ownsRow_lit w5 #[.int .u8 0] 1 (Nat.zero_le _) (by unfold maxLen; decide) (by decide))
  have hf6 := hf5.alloc (.cells #[.int .u8 0] 5)
  replace hw3 := hw3.frame ((Fr.refl w5 (fun _ => False)).alloc (.cells #[.int .u8 0] 5)) (fun _ _ h => h)
  generalize w5.alloc (.cells #[.int .u8 0] 5) = w6 at *
  refine (newReader_any _ [0] w6 hrd (by decide) (by intro j; match j with | 0 => decide | j + 1 => simp)).mono ?_
  rintro e w7 ⟨q2, sv7, rfl, hr7, hf7, hn7⟩
  have hap : ∀ k, foot p sv2 k → k ≠ q2 := fun k h1 h2 => by have := hn7 q2 (.inl rfl); have := hw3.lt k h1; omega
  have hqn2 : w.heap.size ≤ q2 := by have := hn7 q2 (.inl rfl); have := hf6.size; omega
  replace hw3 := hw3.frame hf7 (fun _ _ h => h)
  replace hf7 := hf6.none hf7
  clear hf5 hf6 hrd hn7
  go_wp2_with fail
  refine (gtake_any q2 sv7 _ 0 w7 hr7).mono ?_
  rw [known_rest0]
  have hgv : gval [false, false, false, false, false, false, false, false] = 0 := by decide +kernel
  have hgo : gok [false, false, false, false, false, false, false, false] = false := by decide +kernel
  rw [hgv, hgo]
  rintro e w8 ⟨rfl, hr8, hf8⟩
  replace hw3 := hw3.frame hf8 (fun k h1 h2 => hap k h1 h2)
  replace hf8 := hf7.newer1 hf8 hqn2
  clear hf7 hr7 hr8 hgv hgo hap
  go_wp2_with fail
  refine (len_any p _ _ w8 hw3).mono ?_
  rw [hl5]
  rintro e w9 ⟨rfl, rfl⟩
  go_wp2_with fail
  refine (bytesP_any p _ _ w9 hw3 (by rw [hl5]; omega)).mono ?_
  rintro e w10 ⟨v10, rfl, hv10, hw10, hf10⟩
  have hcv := conv_rds hv10.reads
  rw [known_str] at hcv
  replace hf10 := hf8.none hf10
  clear hv10 hf8 hw3
  go_wp2_with fail
  refine (gsize_any 5 _ (by omega)).mono ?_
  have hg5 : gsize 5 = 5 := by decide +kernel
  rw [hg5]
  rintro e w11 ⟨rfl, rfl⟩
  go_wp2_with fail
  refine (gsize_any 0 _ (by omega)).mono ?_
  have hg0 : gsize 0 = 0 := by decide +kernel
  rw [hg0]
  rintro e w12 ⟨rfl, rfl⟩
  go_wp2
  go_ret
  exact ⟨rfl, hf10⟩

end Go.Proofs.Ytknmlmkenmaocaa
