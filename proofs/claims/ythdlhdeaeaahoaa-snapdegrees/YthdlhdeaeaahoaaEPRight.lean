/-
  The contract of edge's Right.
-/
import Derived.Test.YthdlhdeaeaahoaaEPOf
namespace Go.Proofs.Ythdlhdeaeaahoaa
open Go.RowKit

theorem two_later {w z : World} {x y : Value} {T : TypeId} {p : Nat} (hp : p = w.heap.size) (h : Fr (w.alloc (.cells #[x, y] T)) z (fun _ => False)) : z.cell? ⟨p, 0, none⟩ = some x ∧ z.cell? ⟨p, 1, none⟩ = some y := by
  have h1 : (w.alloc (.cells #[x, y] T)).heap[p]? = some (.cells #[x, y] T (0, 0)) := by rw [hp]; exact heap_alloc_new _ _
  have h2 := h.kept h1 (fun h => h)
  exact ⟨two_cell0 h2, two_cell1 h2⟩

set_option maxRecDepth 4000 in
set_option maxHeartbeats 400000 in
theorem right_any (u v n : Nat) (w : World) (hv : v < 4294967296) : Calls Try.prog 51 #[edgeV (u, v), .int .u64 (n : Int)] w fun e w' => e = .returned (.bool (eRight u v n)) ∧ Fr w w' (fun _ => False) := by
  unfold edgeV
  dsimp only
  have wv : IntKind.u64.wrap (v : Int) = (v : Int) := by rw [IntKind.wrap_u64]; omega
  by_cases heq : u = v
  · subst heq
    have Hr : Hid (eRight u u n = false) := decide_eq_false (by omega)
    rw [Hr.out]
    have Hof : Hid (∀ x, Calls Try.prog 58 #[.int .u32 (u : Int), .int .u32 (u : Int)] x fun e w' => e = .returned (.tuple #[.agg #[.int .u32 0, .int .u32 0], .bool false]) ∧ Fr x w' (fun _ => False)) := fun x => by
      have := of_any u u x
      rw [if_pos rfl, decide_eq_false (by simp)] at this
      exact this
    go_enter Try.func51, Try.ntmps51
    go_wp2_with fail
    refine (Hof.out _).mono ?_
    rintro e w1 ⟨rfl, hf1⟩
    have Hf1 : Hid (Fr w w1 (fun _ => False)) := ((Fr.refl w (fun _ => False)).alloc _).none hf1
    clear hf1
    go_wp2
    go_ret
    exact ⟨rfl, Hf1.out.alloc _⟩
  · rcases Nat.lt_or_gt_of_ne heq with hlt | hlt
    · have Hof : Hid (∀ x, Calls Try.prog 58 #[.int .u32 (u : Int), .int .u32 (v : Int)] x fun e w' => e = .returned (.tuple #[.agg #[.int .u32 (u : Int), .int .u32 (v : Int)], .bool true]) ∧ Fr x w' (fun _ => False)) := fun x => by
        have := of_any u v x
        rw [if_neg heq, decide_eq_true (by simpa using heq), show min u v = u by omega, show max u v = v by omega] at this
        exact this
      obtain ⟨B, hB⟩ : ∃ B, B = eRight u v n := ⟨_, rfl⟩
      have d3 : decide ((v : Int) < (n : Int)) = B := by
        rw [hB]
        unfold eRight
        exact decide_eq_decide.2 (by omega)
      have d3' : decide (v < n) = B := by rw [← d3]; exact decide_eq_decide.2 (by omega)
      rw [← hB]
      clear hB heq
      go_enter Try.func51, Try.ntmps51
      go_wp2_with fail
      refine (Hof.out _).mono ?_
      rintro e w1 ⟨rfl, hf1⟩
      have Hf1 : Hid (Fr w w1 (fun _ => False)) := ((Fr.refl w (fun _ => False)).alloc _).none hf1
      obtain ⟨p, hp⟩ : ∃ p, p = w.heap.size := ⟨_, rfl⟩
      rw [← hp]
      obtain ⟨c0, c1⟩ := two_later hp (hf1.alloc (.cells #[.int .u32 (u : Int), .int .u32 (v : Int)] 48))
      clear hf1 hp
      go_wp2
      go_ret
      exact ⟨by first | rfl | rw [d3] | rw [d3'], Hf1.out.alloc _⟩
    · have Hof : Hid (∀ x, Calls Try.prog 58 #[.int .u32 (u : Int), .int .u32 (v : Int)] x fun e w' => e = .returned (.tuple #[.agg #[.int .u32 (v : Int), .int .u32 (u : Int)], .bool true]) ∧ Fr x w' (fun _ => False)) := fun x => by
        have := of_any u v x
        rw [if_neg heq, decide_eq_true (by simpa using heq), show min u v = v by omega, show max u v = u by omega] at this
        exact this
      have Hr : Hid (eRight u v n = false) := decide_eq_false (by omega)
      rw [Hr.out]
      have d1 : ((u : Int) == (v : Int)) = false := by rw [beq_eq_false_iff_ne]; omega
      have d1' : (u == v) = false := by rw [beq_eq_false_iff_ne]; exact heq
      go_enter Try.func51, Try.ntmps51
      go_wp2_with fail
      refine (Hof.out _).mono ?_
      rintro e w1 ⟨rfl, hf1⟩
      have Hf1 : Hid (Fr w w1 (fun _ => False)) := ((Fr.refl w (fun _ => False)).alloc _).none hf1
      obtain ⟨p, hp⟩ : ∃ p, p = w.heap.size := ⟨_, rfl⟩
      rw [← hp]
      obtain ⟨c0, c1⟩ := two_later hp (hf1.alloc (.cells #[.int .u32 (v : Int), .int .u32 (u : Int)] 48))
      clear hf1 hp
      go_wp2
      go_ret
      exact ⟨rfl, Hf1.out.alloc _⟩

end Go.Proofs.Ythdlhdeaeaahoaa
