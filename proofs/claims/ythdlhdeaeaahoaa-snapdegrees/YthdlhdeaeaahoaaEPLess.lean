/-
  The contracts of edge's Less and Before.
-/
import Derived.Test.YthdlhdeaeaahoaaJ2
namespace Go.Proofs.Ythdlhdeaeaahoaa
open Go.RowKit

set_option maxRecDepth 4000 in
set_option maxHeartbeats 400000 in
theorem less_any (a b : Nat × Nat) (w : World) : Calls Try.prog 38 #[edgeV a, edgeV b] w fun e w' => e = .returned (.bool (eLess a b)) ∧ Fr w w' (fun _ => False) := by
  obtain ⟨a1, a2⟩ := a
  obtain ⟨b1, b2⟩ := b
  unfold edgeV
  dsimp only
  by_cases h2 : a1 = b1
  · subst h2
    have d2 : ((a1 : Int) != (a1 : Int)) = false := by simp
    have d2' : ((a1 : Int) == (a1 : Int)) = true := by simp
    obtain ⟨B, hB⟩ : ∃ B, B = eLess (a1, a2) (a1, b2) := ⟨_, rfl⟩
    have d3 : decide ((a2 : Int) < (b2 : Int)) = B := by
      rw [hB]
      unfold eLess
      exact decide_eq_decide.2 (by simp)
    have d3' : decide (a2 < b2) = B := by rw [← d3]; exact decide_eq_decide.2 (by omega)
    rw [← hB]
    clear hB
    go_enter Try.func38, Try.ntmps38
    go_wp2
    go_ret
    exact ⟨by first | rfl | rw [d3] | rw [d3'], ((Fr.refl w _).alloc _).alloc _⟩
  · have d2 : ((a1 : Int) != (b1 : Int)) = true := by rw [bne_iff_ne]; omega
    have d2' : ((a1 : Int) == (b1 : Int)) = false := by rw [beq_eq_false_iff_ne]; omega
    have d2n : (a1 == b1) = false := by rw [beq_eq_false_iff_ne]; exact h2
    obtain ⟨B, hB⟩ : ∃ B, B = eLess (a1, a2) (b1, b2) := ⟨_, rfl⟩
    have d3 : decide ((a1 : Int) < (b1 : Int)) = B := by
      rw [hB]
      unfold eLess
      exact decide_eq_decide.2 (by dsimp only; omega)
    have d3' : decide (a1 < b1) = B := by rw [← d3]; exact decide_eq_decide.2 (by omega)
    rw [← hB]
    clear hB
    go_enter Try.func38, Try.ntmps38
    go_wp2
    go_ret
    exact ⟨by first | rfl | rw [d3] | rw [d3'], ((Fr.refl w _).alloc _).alloc _⟩

set_option maxRecDepth 4000 in
set_option maxHeartbeats 800000 in
theorem before_any (s t : Int) (a b : Nat × Nat) (x y : Bool) (w : World) : Calls Try.prog 52 #[eventV s a x, eventV t b y] w fun e w' => e = .returned (.bool (eBefore s t a b)) ∧ Fr w w' (fun _ => False) := by
  unfold eventV
  by_cases h2 : s = t
  · have d2 : (s != t) = false := by simp [h2]
    have d2' : (s == t) = true := by simp [h2]
    have Hr : Hid (eBefore s t a b = eLess a b) := by
      show _ = _
      unfold eBefore
      cases h : eLess a b <;> simp [h2]
    clear h2
    rw [Hr.out]
    obtain ⟨L, hL⟩ : ∃ L, L = eLess a b := ⟨_, rfl⟩
    rw [← hL]
    have HL : Hid _ := hL
    clear hL
    go_enter Try.func52, Try.ntmps52
    go_wp2_with fail
    refine (less_any a b _).mono ?_
    rw [← HL.out]
    rintro e w1 ⟨rfl, hf1⟩
    have Hf1 : Hid (Fr w w1 (fun _ => False)) := (((Fr.refl w (fun _ => False)).alloc _).alloc _).none hf1
    clear hf1 Hr HL
    go_wp2
    go_ret
    exact ⟨rfl, Hf1.out⟩
  · have d2 : (s != t) = true := by rw [bne_iff_ne]; exact h2
    have d2' : (s == t) = false := by rw [beq_eq_false_iff_ne]; exact h2
    have Hr : Hid (eBefore s t a b = decide (s < t)) := by
      show _ = _
      unfold eBefore
      simp [h2]
    rw [Hr.out]
    obtain ⟨L, hL⟩ : ∃ L, decide (s < t) = L := ⟨_, rfl⟩
    rw [hL]
    clear Hr
    go_enter Try.func52, Try.ntmps52
    go_wp2
    go_ret
    exact ⟨by first | rfl | rw [hL], ((Fr.refl w _).alloc _).alloc _⟩

end Go.Proofs.Ythdlhdeaeaahoaa
