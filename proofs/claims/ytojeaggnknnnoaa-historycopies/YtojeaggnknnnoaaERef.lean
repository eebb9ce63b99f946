/-
  The contracts of the reference's Right, Less, Before of edges and events.
-/
import Derived.Test.YtojeaggnknnnoaaEMath
namespace Go.Proofs.Ytojeaggnknnnoaa
open Go.RowKit

set_option maxRecDepth 4000 in
set_option maxHeartbeats 400000 in
theorem refRight8_any (u v n : Nat) (w : World) (hv : v < 4294967296) : Calls Try.prog 28 #[edgeV (u, v), .int .u64 (n : Int)] w fun e w' => e = .returned (.bool (eRight u v n)) ∧ Fr w w' (fun _ => False) := by
  unfold edgeV
  have wv : IntKind.u64.wrap (v : Int) = (v : Int) := by rw [IntKind.wrap_u64]; omega
  by_cases h1 : u < v
  · have d1 : decide ((u : Int) < (v : Int)) = true := decide_eq_true (by omega)
    have d1' : decide (u < v) = true := decide_eq_true h1
    by_cases h2 : v < n
    · have d2 : decide ((v : Int) < (n : Int)) = true := decide_eq_true (by omega)
      have d2' : decide (v < n) = true := decide_eq_true h2
      have Hr : Hid (eRight u v n = true) := decide_eq_true ⟨h1, h2⟩
      go_enter Try.func28, Try.ntmps28
      go_wp2
      go_ret
      exact ⟨by rw [Hr.out]; rfl, (Fr.refl w _).alloc _⟩
    · have d2 : decide ((v : Int) < (n : Int)) = false := decide_eq_false (by omega)
      have d2' : decide (v < n) = false := decide_eq_false h2
      have Hr : Hid (eRight u v n = false) := decide_eq_false (by omega)
      go_enter Try.func28, Try.ntmps28
      go_wp2
      go_ret
      exact ⟨by rw [Hr.out]; rfl, (Fr.refl w _).alloc _⟩
  · have d1 : decide ((u : Int) < (v : Int)) = false := decide_eq_false (by omega)
    have d1' : decide (u < v) = false := decide_eq_false h1
    have Hr : Hid (eRight u v n = false) := decide_eq_false (by omega)
    go_enter Try.func28, Try.ntmps28
    go_wp2
    go_ret
    exact ⟨by rw [Hr.out]; rfl, (Fr.refl w _).alloc _⟩

set_option maxRecDepth 4000 in
set_option maxHeartbeats 400000 in
theorem refLess8_any (a b : Nat × Nat) (w : World) : Calls Try.prog 36 #[edgeV a, edgeV b] w fun e w' => e = .returned (.bool (eLess a b)) ∧ Fr w w' (fun _ => False) := by
  obtain ⟨a1, a2⟩ := a
  obtain ⟨b1, b2⟩ := b
  unfold edgeV
  dsimp only
  by_cases h1 : a1 < b1
  · have d1 : decide ((a1 : Int) < (b1 : Int)) = true := decide_eq_true (by omega)
    have d1' : decide (a1 < b1) = true := decide_eq_true h1
    have Hr : Hid (eLess (a1, a2) (b1, b2) = true) := decide_eq_true (.inl h1)
    go_enter Try.func36, Try.ntmps36
    go_wp2
    go_ret
    exact ⟨by rw [Hr.out]; rfl, ((Fr.refl w _).alloc _).alloc _⟩
  · have d1 : decide ((a1 : Int) < (b1 : Int)) = false := decide_eq_false (by omega)
    have d1' : decide (a1 < b1) = false := decide_eq_false h1
    by_cases h2 : a1 = b1
    · have d2 : ((a1 : Int) == (b1 : Int)) = true := by simp [h2]
      have d2' : (a1 == b1) = true := by simp [h2]
      by_cases h3 : a2 < b2
      · have d3 : decide ((a2 : Int) < (b2 : Int)) = true := decide_eq_true (by omega)
        have d3' : decide (a2 < b2) = true := decide_eq_true h3
        have Hr : Hid (eLess (a1, a2) (b1, b2) = true) := decide_eq_true (.inr ⟨h2, h3⟩)
        clear h2
        go_enter Try.func36, Try.ntmps36
        go_wp2
        go_ret
        exact ⟨by rw [Hr.out]; rfl, ((Fr.refl w _).alloc _).alloc _⟩
      · have d3 : decide ((a2 : Int) < (b2 : Int)) = false := decide_eq_false (by omega)
        have d3' : decide (a2 < b2) = false := decide_eq_false h3
        have Hr : Hid (eLess (a1, a2) (b1, b2) = false) := decide_eq_false (by dsimp only; omega)
        clear h2
        go_enter Try.func36, Try.ntmps36
        go_wp2
        go_ret
        exact ⟨by rw [Hr.out]; rfl, ((Fr.refl w _).alloc _).alloc _⟩
    · have d2 : ((a1 : Int) == (b1 : Int)) = false := by rw [beq_eq_false_iff_ne]; omega
      have d2' : (a1 == b1) = false := by rw [beq_eq_false_iff_ne]; exact h2
      have Hr : Hid (eLess (a1, a2) (b1, b2) = false) := decide_eq_false (by dsimp only; omega)
      go_enter Try.func36, Try.ntmps36
      go_wp2
      go_ret
      exact ⟨by rw [Hr.out]; rfl, ((Fr.refl w _).alloc _).alloc _⟩

/-- An event as a value. -/
def eventV (t : Int) (e : Nat × Nat) (b : Bool) : Value := .agg #[.int .i64 t, .int .u32 (e.1 : Int), .int .u32 (e.2 : Int), .bool b]

set_option maxRecDepth 4000 in
set_option maxHeartbeats 800000 in
theorem refBefore8_any (s t : Int) (a b : Nat × Nat) (x y : Bool) (w : World) : Calls Try.prog 29 #[eventV s a x, eventV t b y] w fun e w' => e = .returned (.bool (eBefore s t a b)) ∧ Fr w w' (fun _ => False) := by
  unfold eventV
  by_cases h1 : s < t
  · have d1 : decide (s < t) = true := decide_eq_true h1
    have Hr : Hid (eBefore s t a b = true) := decide_eq_true (.inl h1)
    go_enter Try.func29, Try.ntmps29
    go_wp2
    go_ret
    exact ⟨by rw [Hr.out]; rfl, ((Fr.refl w _).alloc _).alloc _⟩
  · have d1 : decide (s < t) = false := decide_eq_false h1
    by_cases h2 : s = t
    · have d2 : (s == t) = true := by simp [h2]
      have Hr : Hid (eBefore s t a b = eLess a b) := by
        show _ = _
        unfold eBefore
        cases h : eLess a b <;> simp [h2]
      clear h2
      rw [Hr.out]
      obtain ⟨L, hL⟩ : ∃ L, L = eLess a b := ⟨_, rfl⟩
      rw [← hL]
      have HL : Hid _ := hL
      clear hL
      go_enter Try.func29, Try.ntmps29
      go_wp2_with fail
      refine (refLess8_any a b _).mono ?_
      rw [← HL.out]
      rintro e w1 ⟨rfl, hf1⟩
      have Hf1 : Hid (Fr w w1 (fun _ => False)) := (((Fr.refl w (fun _ => False)).alloc _).alloc _).none hf1
      clear hf1 Hr HL
      go_wp2
      go_ret
      exact ⟨rfl, Hf1.out⟩
    · have d2 : (s == t) = false := by rw [beq_eq_false_iff_ne]; exact h2
      have Hr : Hid (eBefore s t a b = false) := by
        show _ = _
        unfold eBefore
        simp [h1, h2]
      go_enter Try.func29, Try.ntmps29
      go_wp2
      go_ret
      exact ⟨by rw [Hr.out]; rfl, ((Fr.refl w _).alloc _).alloc _⟩

end Go.Proofs.Ytojeaggnknnnoaa
