/-
  The walk of the law EdgeNames, under the condition that the program's functions answer as their contracts say.
-/
import Derived.Test.YtgmancekamfinaaRows
import Derived.Test.YtgmancekamfinaaEC
namespace Go.Proofs.Ytgmancekamfinaa.edgeNames
open Go.ChangeShapes Go.WideShapes Go.ChangeAt Go.RowKit

theorem eu32 (n : Int) (h : (Lit.int .u32 n).wf = true) : 0 ≤ n ∧ n < (4294967296 : Nat) := by have := bounds_u32 h; omega
theorem eu64 (n : Int) (h : (Lit.int .u64 n).wf = true) : 0 ≤ n ∧ n < (18446744073709551616 : Nat) := by have := bounds_u64 h; omega
theorem ebelow {w w' : World} (h : Fr w w' (fun _ => False)) : Below w.heap.size w w' := h.below (Nat.le_refl _) (fun _ h => h.elim)
/-- Two cells that were made last, later on. -/
theorem cells_later {w z : World} {x y : Value} {T : TypeId} {p : Nat} (hp : p = w.heap.size) (h : Fr (w.alloc (.cells #[x, y] T)) z (fun _ => False)) : z.cell? ⟨p, 0, none⟩ = some x ∧ z.cell? ⟨p, 1, none⟩ = some y := by
  have h1 : (w.alloc (.cells #[x, y] T)).heap[p]? = some (.cells #[x, y] T (0, 0)) := by rw [hp]; exact heap_alloc_new _ _
  have h2 := h.kept h1 (fun h => h)
  exact ⟨two_cell0 h2, two_cell1 h2⟩

set_option maxRecDepth 4000 in
set_option maxHeartbeats 1600000 in
theorem walkM (M : EC) (a0 : Int) (a1 : Int) (a2 : Int) (w0 : (Lit.int .u32 a0).wf = true) (w1 : (Lit.int .u32 a1).wf = true) (w2 : (Lit.int .u64 a2).wf = true) (w : World) :
    Calls Try.prog 6 #[.int .u32 a0, .int .u32 a1, .int .u64 a2] w fun e w' => e = .returned (.bool true) ∧ Below w.heap.size w w' := by
  obtain ⟨a, rfl⟩ : ∃ k : Nat, a0 = (k : Int) := ⟨a0.toNat, by have := eu32 a0 w0; omega⟩
  obtain ⟨b, rfl⟩ : ∃ k : Nat, a1 = (k : Int) := ⟨a1.toNat, by have := eu32 a1 w1; omega⟩
  obtain ⟨n, rfl⟩ : ∃ k : Nat, a2 = (k : Int) := ⟨a2.toNat, by have := eu64 a2 w2; omega⟩
  have ha := (eu32 _ w0).2
  have hb := (eu32 _ w1).2
  have hn := (eu64 _ w2).2
  have hab : a < 4294967296 := by omega
  have hbb : b < 4294967296 := by omega
  have hnb : n < 18446744073709551616 := by omega
  clear w0 w1 w2 ha hb hn
  go_enter Try.func6, Try.ntmps6
  go_wp2_with fail
  refine (known_any M w).mono ?_
  rintro e w1 ⟨rfl, hf1⟩
  have Hf1 : Hid (Fr w w1 (fun _ => False)) := hf1
  clear hf1
  by_cases heq : a = b
  · subst heq
    have d1 : ((a : Int) == (a : Int)) = true := by simp
    go_wp2_with fail
    refine (M.of_ a a w1 hab hab).mono ?_
    rw [if_pos rfl, decide_eq_false (by simp), show edgeV (0, 0) = .agg #[.int .u32 0, .int .u32 0] from rfl]
    rintro e w2 ⟨rfl, hf2⟩
    have Hf2 : Hid (Fr w w2 (fun _ => False)) := Hf1.out.none hf2
    clear hf2
    go_wp2_with fail
    refine (M.of_ a a _ hab hab).mono ?_
    rw [if_pos rfl, decide_eq_false (by simp), show edgeV (0, 0) = .agg #[.int .u32 0, .int .u32 0] from rfl]
    rintro e w3 ⟨rfl, hf3⟩
    obtain ⟨p, hp⟩ : ∃ p, p = w2.heap.size := ⟨_, rfl⟩
    rw [← hp]
    obtain ⟨c0, c1⟩ := cells_later hp (hf3.alloc (.cells #[.int .u32 0, .int .u32 0] 26))
    have Hf3 : Hid (Fr w w3 (fun _ => False)) := (Hf2.out.alloc _).none hf3
    clear hf3 hp
    go_wp2
    go_ret
    exact ⟨rfl, ebelow (Hf3.out.alloc _)⟩
  · have d1 : ((a : Int) == (b : Int)) = false := by rw [beq_eq_false_iff_ne]; omega
    have d1' : (a == b) = false := by rw [beq_eq_false_iff_ne]; exact heq
    rcases Nat.lt_or_gt_of_ne heq with hlt | hlt
    · have e1 : decide ((a : Int) < (b : Int)) = true := decide_eq_true (by omega)
      have e2 : decide ((b : Int) < (a : Int)) = false := decide_eq_false (by omega)
      have e3 : (a : Int) < (b : Int) := by omega
      have wh : IntKind.u64.wrap (b : Int) = (b : Int) := by rw [IntKind.wrap_u64]; omega
      obtain ⟨h1, hh1⟩ : ∃ x, x = b + 1 := ⟨_, rfl⟩
      have wh0 : (b : Int) + 1 = (h1 : Int) := by omega
      have wh1 : IntKind.u64.wrap (h1 : Int) = (h1 : Int) := by rw [IntKind.wrap_u64]; omega
      have HA : Hid (eRight a b h1 = true) := decide_eq_true (by omega)
      have HB : Hid (eRight a b b = false) := decide_eq_false (by omega)
      have HD : Hid (eRight b a 8589934592 = false) := decide_eq_false (by omega)
      have HE : Hid (eLess (a, b) (a, b) = false) := decide_eq_false (by simp)
      have h1b : h1 < 18446744073709551616 := by omega
      have Hof1 : Hid (Calls Try.prog 8 #[.int .u32 (a : Int), .int .u32 (b : Int)] w1 fun e w' => e = .returned (.tuple #[.agg #[.int .u32 (a : Int), .int .u32 (b : Int)], .bool true]) ∧ Fr w1 w' (fun _ => False)) := by
        have := M.of_ a b w1 hab hbb
        rw [if_neg heq, decide_eq_true (by simpa using heq), show min a b = a by omega, show max a b = b by omega] at this
        exact this
      have Hof2 : Hid (∀ x, Calls Try.prog 8 #[.int .u32 (b : Int), .int .u32 (a : Int)] x fun e w' => e = .returned (.tuple #[.agg #[.int .u32 (a : Int), .int .u32 (b : Int)], .bool true]) ∧ Fr x w' (fun _ => False)) := fun x => by
        have := M.of_ b a x hbb hab
        rw [if_neg (fun h => heq h.symm), decide_eq_true (by simpa using fun h => heq h.symm), show min b a = a by omega, show max b a = b by omega] at this
        exact this
      clear heq hh1
      go_wp2_with fail
      refine Hof1.out.mono ?_
      rintro e w2 ⟨rfl, hf2⟩
      have Hf2 : Hid (Fr w w2 (fun _ => False)) := Hf1.out.none hf2
      clear hf2
      go_wp2_with fail
      refine (Hof2.out _).mono ?_
      rintro e w3 ⟨rfl, hf3⟩
      obtain ⟨p, hp⟩ : ∃ p, p = w2.heap.size := ⟨_, rfl⟩
      rw [← hp]
      have Hc : Hid (∀ z, Fr (w3.alloc (.cells #[.int .u32 (a : Int), .int .u32 (b : Int)] 26)) z (fun _ => False) → (z.cell? ⟨p, 0, none⟩ = some (.int .u32 (a : Int)) ∧ z.cell? ⟨p, 1, none⟩ = some (.int .u32 (b : Int))) ∧ z.cell? ⟨w3.heap.size, 0, none⟩ = some (.int .u32 (a : Int)) ∧ z.cell? ⟨w3.heap.size, 1, none⟩ = some (.int .u32 (b : Int))) := fun z hz => ⟨cells_later hp ((hf3.alloc _).none hz), cells_later rfl hz⟩
      have Hf3 : Hid (Fr w (w3.alloc (.cells #[.int .u32 (a : Int), .int .u32 (b : Int)] 26)) (fun _ => False)) := ((Hf2.out.alloc _).none hf3).alloc _
      clear hf3 hp
      obtain ⟨⟨c0, c1⟩, c2, c3⟩ := Hc.out _ (Fr.refl _ _)
      go_wp2_with fail
      refine (M.right a b h1 _ (by omega) (by omega) h1b).mono ?_
      rw [HA.out]
      rintro e w4 ⟨rfl, hf4⟩
      have Hf4 : Hid (Fr (w3.alloc (.cells #[.int .u32 (a : Int), .int .u32 (b : Int)] 26)) w4 (fun _ => False)) := hf4
      clear c0 c1 c2 c3 hf4
      obtain ⟨⟨c0, c1⟩, c2, c3⟩ := Hc.out _ Hf4.out
      go_wp2_with fail
      refine (M.right a b b _ (by omega) (by omega) (by omega)).mono ?_
      rw [HB.out]
      rintro e w5 ⟨rfl, hf5⟩
      have Hf5 : Hid (Fr (w3.alloc (.cells #[.int .u32 (a : Int), .int .u32 (b : Int)] 26)) w5 (fun _ => False)) := Hf4.out.none hf5
      clear c0 c1 c2 c3 hf5
      obtain ⟨⟨c0, c1⟩, c2, c3⟩ := Hc.out _ Hf5.out
      obtain ⟨B, hB⟩ : ∃ B, B = eRight a b n := ⟨_, rfl⟩
      have dB : decide ((b : Int) < (n : Int)) = B := by
        rw [hB]
        unfold eRight
        exact decide_eq_decide.2 (by omega)
      have dBn : decide (b < n) = B := by rw [← dB]; exact decide_eq_decide.2 (by omega)
      have HB2 : Hid _ := hB
      clear hB
      go_wp2_with fail
      refine (M.right a b n _ (by omega) (by omega) hnb).mono ?_
      rw [← HB2.out]
      rintro e w6 ⟨rfl, hf6⟩
      have Hf6 : Hid (Fr (w3.alloc (.cells #[.int .u32 (a : Int), .int .u32 (b : Int)] 26)) w6 (fun _ => False)) := Hf5.out.none hf6
      clear c0 c1 c2 c3 hf6 HB2
      obtain ⟨⟨c0, c1⟩, c2, c3⟩ := Hc.out _ Hf6.out
      have bB : (B == B) = true := by simp
      go_wp2_with fail
      refine (M.right b a 8589934592 _ (by omega) (by omega) (by decide)).mono ?_
      rw [HD.out]
      rintro e w7 ⟨rfl, hf7⟩
      have Hf7 : Hid (Fr (w3.alloc (.cells #[.int .u32 (a : Int), .int .u32 (b : Int)] 26)) w7 (fun _ => False)) := Hf6.out.none hf7
      clear c0 c1 c2 c3 hf7
      obtain ⟨⟨c0, c1⟩, c2, c3⟩ := Hc.out _ Hf7.out
      go_wp2_with fail
      refine (M.less (a, b) (a, b) _ (by dsimp only; omega) (by dsimp only; omega) (by dsimp only; omega) (by dsimp only; omega)).mono ?_
      rw [HE.out]
      rintro e w8 ⟨rfl, hf8⟩
      have Hfo : Hid (Fr w w8 (fun _ => False)) := (Hf3.out.none Hf7.out).none hf8
      clear c0 c1 c2 c3 hf8
      go_wp2
      go_ret
      exact ⟨rfl, ebelow Hfo.out⟩
    · have e1 : decide ((a : Int) < (b : Int)) = false := decide_eq_false (by omega)
      have e2 : decide ((b : Int) < (a : Int)) = true := decide_eq_true (by omega)
      have e3 : ¬ (a : Int) < (b : Int) := by omega
      have e4 : (b : Int) < (a : Int) := by omega
      have wh : IntKind.u64.wrap (a : Int) = (a : Int) := by rw [IntKind.wrap_u64]; omega
      obtain ⟨h1, hh1⟩ : ∃ x, x = a + 1 := ⟨_, rfl⟩
      have wh0 : (a : Int) + 1 = (h1 : Int) := by omega
      have wh1 : IntKind.u64.wrap (h1 : Int) = (h1 : Int) := by rw [IntKind.wrap_u64]; omega
      have HA : Hid (eRight b a h1 = true) := decide_eq_true (by omega)
      have HB : Hid (eRight b a a = false) := decide_eq_false (by omega)
      have HD : Hid (eRight a b 8589934592 = false) := decide_eq_false (by omega)
      have HE : Hid (eLess (b, a) (b, a) = false) := decide_eq_false (by simp)
      have h1b : h1 < 18446744073709551616 := by omega
      have Hof1 : Hid (Calls Try.prog 8 #[.int .u32 (a : Int), .int .u32 (b : Int)] w1 fun e w' => e = .returned (.tuple #[.agg #[.int .u32 (b : Int), .int .u32 (a : Int)], .bool true]) ∧ Fr w1 w' (fun _ => False)) := by
        have := M.of_ a b w1 hab hbb
        rw [if_neg heq, decide_eq_true (by simpa using heq), show min a b = b by omega, show max a b = a by omega] at this
        exact this
      have Hof2 : Hid (∀ x, Calls Try.prog 8 #[.int .u32 (b : Int), .int .u32 (a : Int)] x fun e w' => e = .returned (.tuple #[.agg #[.int .u32 (b : Int), .int .u32 (a : Int)], .bool true]) ∧ Fr x w' (fun _ => False)) := fun x => by
        have := M.of_ b a x hbb hab
        rw [if_neg (fun h => heq h.symm), decide_eq_true (by simpa using fun h => heq h.symm), show min b a = b by omega, show max b a = a by omega] at this
        exact this
      clear heq hh1
      go_wp2_with fail
      refine Hof1.out.mono ?_
      rintro e w2 ⟨rfl, hf2⟩
      have Hf2 : Hid (Fr w w2 (fun _ => False)) := Hf1.out.none hf2
      clear hf2
      go_wp2_with fail
      refine (Hof2.out _).mono ?_
      rintro e w3 ⟨rfl, hf3⟩
      obtain ⟨p, hp⟩ : ∃ p, p = w2.heap.size := ⟨_, rfl⟩
      rw [← hp]
      have Hc : Hid (∀ z, Fr (w3.alloc (.cells #[.int .u32 (b : Int), .int .u32 (a : Int)] 26)) z (fun _ => False) → (z.cell? ⟨p, 0, none⟩ = some (.int .u32 (b : Int)) ∧ z.cell? ⟨p, 1, none⟩ = some (.int .u32 (a : Int))) ∧ z.cell? ⟨w3.heap.size, 0, none⟩ = some (.int .u32 (b : Int)) ∧ z.cell? ⟨w3.heap.size, 1, none⟩ = some (.int .u32 (a : Int))) := fun z hz => ⟨cells_later hp ((hf3.alloc _).none hz), cells_later rfl hz⟩
      have Hf3 : Hid (Fr w (w3.alloc (.cells #[.int .u32 (b : Int), .int .u32 (a : Int)] 26)) (fun _ => False)) := ((Hf2.out.alloc _).none hf3).alloc _
      clear hf3 hp
      obtain ⟨⟨c0, c1⟩, c2, c3⟩ := Hc.out _ (Fr.refl _ _)
      go_wp2_with fail
      refine (M.right b a h1 _ (by omega) (by omega) h1b).mono ?_
      rw [HA.out]
      rintro e w4 ⟨rfl, hf4⟩
      have Hf4 : Hid (Fr (w3.alloc (.cells #[.int .u32 (b : Int), .int .u32 (a : Int)] 26)) w4 (fun _ => False)) := hf4
      clear c0 c1 c2 c3 hf4
      obtain ⟨⟨c0, c1⟩, c2, c3⟩ := Hc.out _ Hf4.out
      go_wp2_with fail
      refine (M.right b a a _ (by omega) (by omega) (by omega)).mono ?_
      rw [HB.out]
      rintro e w5 ⟨rfl, hf5⟩
      have Hf5 : Hid (Fr (w3.alloc (.cells #[.int .u32 (b : Int), .int .u32 (a : Int)] 26)) w5 (fun _ => False)) := Hf4.out.none hf5
      clear c0 c1 c2 c3 hf5
      obtain ⟨⟨c0, c1⟩, c2, c3⟩ := Hc.out _ Hf5.out
      obtain ⟨B, hB⟩ : ∃ B, B = eRight b a n := ⟨_, rfl⟩
      have dB : decide ((a : Int) < (n : Int)) = B := by
        rw [hB]
        unfold eRight
        exact decide_eq_decide.2 (by omega)
      have dBn : decide (a < n) = B := by rw [← dB]; exact decide_eq_decide.2 (by omega)
      have HB2 : Hid _ := hB
      clear hB
      go_wp2_with fail
      refine (M.right b a n _ (by omega) (by omega) hnb).mono ?_
      rw [← HB2.out]
      rintro e w6 ⟨rfl, hf6⟩
      have Hf6 : Hid (Fr (w3.alloc (.cells #[.int .u32 (b : Int), .int .u32 (a : Int)] 26)) w6 (fun _ => False)) := Hf5.out.none hf6
      clear c0 c1 c2 c3 hf6 HB2
      obtain ⟨⟨c0, c1⟩, c2, c3⟩ := Hc.out _ Hf6.out
      have bB : (B == B) = true := by simp
      go_wp2_with fail
      refine (M.right a b 8589934592 _ (by omega) (by omega) (by decide)).mono ?_
      rw [HD.out]
      rintro e w7 ⟨rfl, hf7⟩
      have Hf7 : Hid (Fr (w3.alloc (.cells #[.int .u32 (b : Int), .int .u32 (a : Int)] 26)) w7 (fun _ => False)) := Hf6.out.none hf7
      clear c0 c1 c2 c3 hf7
      obtain ⟨⟨c0, c1⟩, c2, c3⟩ := Hc.out _ Hf7.out
      go_wp2_with fail
      refine (M.less (b, a) (b, a) _ (by dsimp only; omega) (by dsimp only; omega) (by dsimp only; omega) (by dsimp only; omega)).mono ?_
      rw [HE.out]
      rintro e w8 ⟨rfl, hf8⟩
      have Hfo : Hid (Fr w w8 (fun _ => False)) := (Hf3.out.none Hf7.out).none hf8
      clear c0 c1 c2 c3 hf8
      go_wp2
      go_ret
      exact ⟨rfl, ebelow Hfo.out⟩

end Go.Proofs.Ytgmancekamfinaa.edgeNames
