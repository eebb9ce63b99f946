/-
  The contract of the reference's LifeLess.
-/
import Derived.Test.YtnffjafddbbjaaaGreatDoorJ3
import Derived.Test.YtnffjafddbbjaaaGreatDoorXAll
namespace Go.Proofs.YtnffjafddbbjaaaGreatDoor
open Go.RowKit

set_option maxRecDepth 4000 in
set_option maxHeartbeats 800000 in
theorem refLifeLess_any (a b : Lf) (w : World) : Calls Tryz.prog 48 #[lifeV a, lifeV b] w fun e w' => e = .returned (.bool (lLess a b)) ∧ Fr w w' (fun _ => False) := by
  obtain ⟨⟨a1, a2⟩, s, p⟩ := a
  obtain ⟨⟨b1, b2⟩, t, q⟩ := b
  unfold lifeV
  dsimp only
  obtain ⟨L, hL⟩ : ∃ L, L = eLess (a1, a2) (b1, b2) := ⟨_, rfl⟩
  obtain ⟨R, hR⟩ : ∃ R, R = lLess ((a1, a2), s, p) ((b1, b2), t, q) := ⟨_, rfl⟩
  rw [← hR]
  have hR2 : R = (L || (decide (a1 = b1) && decide (a2 = b2) && decide (s < t))) := by
    rw [hR, hL]
    unfold lLess
    by_cases h1 : a1 = b1 <;> by_cases h2 : a2 = b2 <;> simp [h1, h2]
  have HL : Hid _ := hL
  clear hR hL
  go_enter Tryz.func48, Tryz.ntmps48
  go_wp2_with fail
  refine (refLess8_any (a1, a2) (b1, b2) _).mono ?_
  rw [← HL.out]
  rintro e w1 ⟨rfl, hf1⟩
  obtain ⟨wa, hwa⟩ : ∃ wa, wa = (w.alloc (.cells #[.int .u32 (a1 : Int), .int .u32 (a2 : Int), .int .i64 s, .int .i64 p] 82)) := ⟨_, rfl⟩
  obtain ⟨wb, hwb⟩ : ∃ wb, wb = (wa.alloc (.cells #[.int .u32 (b1 : Int), .int .u32 (b2 : Int), .int .i64 t, .int .i64 q] 82)) := ⟨_, rfl⟩
  rw [← hwa, ← hwb] at hf1
  obtain ⟨u, hu⟩ : ∃ u, u = w.heap.size := ⟨_, rfl⟩
  obtain ⟨v, hv⟩ : ∃ u, u = w.heap.size + 1 := ⟨_, rfl⟩
  rw [← hv, ← hu]
  have ba : w1.heap[u]? = some (.cells #[.int .u32 (a1 : Int), .int .u32 (a2 : Int), .int .i64 s, .int .i64 p] 82 (0, 0)) := hf1.kept (by rw [hwb]; exact ((Fr.refl wa (fun _ => False)).alloc _).kept (by rw [hwa, hu]; exact heap_alloc_new _ _) (fun h => h)) (fun h => h)
  have bb : w1.heap[v]? = some (.cells #[.int .u32 (b1 : Int), .int .u32 (b2 : Int), .int .i64 t, .int .i64 q] 82 (0, 0)) := hf1.kept (by rw [hwb, show v = wa.heap.size by rw [hv, hwa]; simp]; exact heap_alloc_new _ _) (fun h => h)
  obtain ⟨c0, c1, c2, -⟩ := four_cells ba
  obtain ⟨e0, e1, e2, -⟩ := four_cells bb
  have Hf1 : Hid (Fr w w1 (fun _ => False)) := by
    have h1 : Fr w wa (fun _ => False) := by rw [hwa]; exact (Fr.refl _ _).alloc _
    have h2 : Fr w wb (fun _ => False) := by rw [hwb]; exact h1.alloc _
    exact h2.none hf1
  clear hf1 ba bb hwa hwb hu hv HL
  cases L with
  | true =>
    obtain rfl : R = true := by rw [hR2]; rfl
    clear hR2
    go_wp2
    go_ret
    exact ⟨rfl, Hf1.out⟩
  | false =>
    by_cases h1 : a1 = b1
    · subst h1
      have d1 : ((a1 : Int) == (a1 : Int)) = true := by simp
      have d1' : (a1 == a1) = true := by simp
      by_cases h2 : a2 = b2
      · subst h2
        have d2 : ((a2 : Int) == (a2 : Int)) = true := by simp
        have d2' : (a2 == a2) = true := by simp
        obtain ⟨D, hD⟩ : ∃ D, decide (s < t) = D := ⟨_, rfl⟩
        obtain rfl : R = D := by rw [hR2, hD]; simp
        clear hR2
        go_wp2
        go_ret
        exact ⟨by rw [← hD]; simp, Hf1.out⟩
      · have d2 : ((a2 : Int) == (b2 : Int)) = false := by rw [beq_eq_false_iff_ne]; omega
        have d2' : (a2 == b2) = false := by rw [beq_eq_false_iff_ne]; exact h2
        obtain rfl : R = false := by rw [hR2]; simp [h2]
        clear hR2
        go_wp2
        go_ret
        exact ⟨by simp, Hf1.out⟩
    · have d1 : ((a1 : Int) == (b1 : Int)) = false := by rw [beq_eq_false_iff_ne]; omega
      have d1' : (a1 == b1) = false := by rw [beq_eq_false_iff_ne]; exact h1
      obtain rfl : R = false := by rw [hR2]; simp [h1]
      clear hR2
      go_wp2
      go_ret
      exact ⟨by simp, Hf1.out⟩

end Go.Proofs.YtnffjafddbbjaaaGreatDoor
