/-
  Which pivot the library's sort chooses is left open: one of the part's.
-/
import Derived.Test.YthdlhdeaeaahoaaGPivot
namespace Go.Proofs.Ythdlhdeaeaahoaa
open Go.RowKit Go.Sort

section
variable {α : Type} [Inhabited α]

set_option maxRecDepth 4000 in
set_option maxHeartbeats 1600000 in
theorem gChoose_any (C : SortC α) (w0 : World) (hO : C.Ok w0) (a b : Nat) (d : Array α) (w : World) (hA : C.At w0 w d) (hab : a + 12 < b) (hb : b ≤ C.n) :
    Calls Try.prog 73 #[.agg #[.func (.func C.g) #[] C.lb, .func (.func C.sf) #[] C.sb], .int .i64 (a : Int), .int .i64 (b : Int)] w fun e w' => (∃ (j h : Nat), e = .returned (.tuple #[.int .i64 (j : Int), .int .i64 (h : Int)]) ∧ (a ≤ j ∧ j < b) ∧ h ≤ 2) ∧ C.own w' d ∧ Fr w w' (fun _ => False) := by
  have eg := hO.eg
  have hn := hO.hn
  have hbw : C.b < w.heap.size := Nat.lt_of_lt_of_le hO.hb hA.2.size
  have HO : Hid (C.Ok w0) := hO
  have HA : Hid (C.At w0 w d) := hA
  clear hO hA
  go_enter Try.func73, Try.ntmps73
  go_upto_region 1 with fail
  obtain ⟨p, hp⟩ : ∃ p, p = w.heap.size := ⟨_, rfl⟩
  obtain ⟨w1, hw1⟩ : ∃ x, x = w.alloc (.cells #[.func (.func C.g) #[] C.lb, .func (.func C.sf) #[] C.sb] 99) := ⟨_, rfl⟩
  rw [← hw1, ← hp]
  have HB : Hid (w1.heap[p]? = some (.cells #[.func (.func C.g) #[] C.lb, .func (.func C.sf) #[] C.sb] 99 (0, 0))) := by show _ = _; rw [hw1, hp]; exact heap_alloc_new _ _
  have HF : Hid (Fr w w1 (fun j => j = C.b)) := by show Fr _ _ _; rw [hw1]; exact (Fr.refl _ _).alloc _
  have HW : Hid (C.own w1 d) := by show C.own _ _; rw [hw1]; exact HA.out.1.frame ((Fr.refl _ (fun _ => False)).alloc _) (fun h => h)
  have hpb : p ≠ C.b := by omega
  have HG : Hid (Fr w w1 (fun _ => False)) := by show Fr _ _ _; rw [hw1]; exact (Fr.refl _ _).alloc _
  clear hp hw1 hbw
  obtain ⟨L, hL⟩ : ∃ L, b = a + L := ⟨b - a, by omega⟩
  subst hL
  obtain ⟨Q, hQ⟩ : ∃ Q, Q = L / 4 := ⟨_, rfl⟩
  have eQ : ((a : Int) + (L : Int) - (a : Int)) / 4 = (Q : Int) := by omega
  have hQ1 : 3 ≤ Q := by omega
  have hQ2 : 4 * Q ≤ L := by omega
  go_upto_region 6 with fail
  obtain ⟨q, hq⟩ : ∃ q, q = w1.heap.size := ⟨_, rfl⟩
  obtain ⟨x0, hx0⟩ : ∃ x, x = w1.alloc (.cells #[.int .i64 0] 3) := ⟨_, rfl⟩
  rw [← hx0, ← hq]
  have hw01 : w0.heap.size ≤ w1.heap.size := (HA.out.2.trans HF.out (fun _ _ h => h)).size
  have hpw : p < w1.heap.size := lt_of_block HB.out
  have HQ : Hid (w0.heap.size ≤ q) := by show _ ≤ _; omega
  have hpq : p ≠ q := by omega
  have HN : Hid (w1.heap.size ≤ q) := by show _ ≤ _; omega
  have HBx : Hid (x0.heap[p]? = some (.cells #[.func (.func C.g) #[] C.lb, .func (.func C.sf) #[] C.sb] 99 (0, 0))) := by show _ = _; rw [hx0]; exact blk_alloc _ HB.out
  have H0 : Hid (x0.heap[q]? = some (.cells #[.int .i64 ((0 : Nat) : Int)] 3 (0, 0)) ∧ C.own x0 d ∧ Fr x0 x0 (fun j => j = q)) := by
    refine ⟨?_, ?_, Fr.refl _ _⟩
    · rw [hx0, hq]; exact heap_alloc_new _ _
    · rw [hx0]; exact HW.out.frame ((Fr.refl _ (fun _ => False)).alloc _) (fun h => h)
  have HX0 : Hid (Fr w1 x0 (fun _ => False)) := by show Fr _ _ _; rw [hx0]; exact (Fr.refl _ _).alloc _
  have HAt : Hid (∀ z, Fr x0 z (fun j => j = q) → Fr w0 z (fun j => j = C.b)) := fun z hz =>
    ((HA.out.2.trans HF.out (fun _ _ h => h)).none HX0.out).newer hz (fun i hi => hi ▸ HQ.out)
  have HEnd : Hid (∀ z, Fr x0 z (fun j => j = q) → Fr w z (fun _ => False)) := fun z hz =>
    (HG.out.none HX0.out).trans hz (fun i hi h => by have := HN.out; have := HG.out.size; omega)
  clear hq hx0 hw01 hpw
  have h8 : (8 : Int) ≤ (a : Int) + (L : Int) - (a : Int) := by omega
  have hq1 : ((a + Q : Nat) : Int) = (a : Int) + (L : Int) / 4 := by omega
  have hq2 : ((a + Q * 2 : Nat) : Int) = (a : Int) + (L : Int) / 4 * 2 := by omega
  have hq3 : ((a + Q * 3 : Nat) : Int) = (a : Int) + (L : Int) / 4 * 3 := by omega
  have hQ3 : Q * 3 + 2 ≤ L := by omega
  have HQ1 : Hid _ := hq1
  have HQ2 : Hid _ := hq2
  have HQ3 : Hid _ := hq3
  clear hq1 hq2 hq3 eQ hQ
  by_cases h50 : 50 ≤ L
  · have h50i : (50 : Int) ≤ (a : Int) + (L : Int) - (a : Int) := by omega
    obtain ⟨c0, c1⟩ := box_cells HBx.out H0.out.2.2 hpq
    have hcall := gAdj_any C w0 HO.out (a + Q) q 0 d x0 ⟨H0.out.2.1, HAt.out _ H0.out.2.2⟩ (by omega) (by omega) HQ.out H0.out.1 (by omega)
    rw [HQ1.out] at hcall
    go_wp2_with fail
    refine hcall.mono ?_
    rintro e x1 ⟨⟨i1, rfl, hi1, hj1⟩, s1, hs1, hc, ho, hf⟩
    have H1 : Hid (x1.heap[q]? = some (.cells #[.int .i64 (s1 : Int)] 3 (0, 0)) ∧ C.own x1 d ∧ Fr x0 x1 (fun j => j = q)) := ⟨hc, ho, H0.out.2.2.trans hf (fun _ _ h => h)⟩
    clear hcall c0 c1 hc ho hf
    obtain ⟨c0, c1⟩ := box_cells HBx.out H1.out.2.2 hpq
    have hcall := gAdj_any C w0 HO.out (a + Q * 2) q s1 d x1 ⟨H1.out.2.1, HAt.out _ H1.out.2.2⟩ (by omega) (by omega) HQ.out H1.out.1 (by omega)
    rw [HQ2.out] at hcall
    go_wp2_with fail
    refine hcall.mono ?_
    rintro e x2 ⟨⟨i2, rfl, hi2, hj2⟩, s2, hs2, hc, ho, hf⟩
    have H2 : Hid (x2.heap[q]? = some (.cells #[.int .i64 (s2 : Int)] 3 (0, 0)) ∧ C.own x2 d ∧ Fr x0 x2 (fun j => j = q)) := ⟨hc, ho, H1.out.2.2.trans hf (fun _ _ h => h)⟩
    clear hcall c0 c1 hc ho hf
    obtain ⟨c0, c1⟩ := box_cells HBx.out H2.out.2.2 hpq
    have hcall := gAdj_any C w0 HO.out (a + Q * 3) q s2 d x2 ⟨H2.out.2.1, HAt.out _ H2.out.2.2⟩ (by omega) (by omega) HQ.out H2.out.1 (by omega)
    rw [HQ3.out] at hcall
    go_wp2_with fail
    refine hcall.mono ?_
    rintro e x3 ⟨⟨i3, rfl, hi3, hj3⟩, s3, hs3, hc, ho, hf⟩
    have H3 : Hid (x3.heap[q]? = some (.cells #[.int .i64 (s3 : Int)] 3 (0, 0)) ∧ C.own x3 d ∧ Fr x0 x3 (fun j => j = q)) := ⟨hc, ho, H2.out.2.2.trans hf (fun _ _ h => h)⟩
    clear hcall c0 c1 hc ho hf
    obtain ⟨c0, c1⟩ := box_cells HBx.out H3.out.2.2 hpq
    have hcall := gMedian_any C w0 HO.out i1 i2 i3 q s3 d x3 ⟨H3.out.2.1, HAt.out _ H3.out.2.2⟩ (by omega) (by omega) (by omega) HQ.out H3.out.1 (by omega)
    go_wp2_with fail
    refine hcall.mono ?_
    rintro e x4 ⟨⟨j, rfl, hj⟩, s4, hs4, hc, ho, hf⟩
    have H4 : Hid (x4.heap[q]? = some (.cells #[.int .i64 (s4 : Int)] 3 (0, 0)) ∧ C.own x4 d ∧ Fr x0 x4 (fun j => j = q)) := ⟨hc, ho, H3.out.2.2.trans hf (fun _ _ h => h)⟩
    have hjr : a ≤ j ∧ j < a + L := by omega
    obtain ⟨k0, -⟩ := one_cell hc
    clear hcall c0 c1 hc ho hf hj
    by_cases z0 : s4 = 0
    · subst z0
      go_wp2_with fail
      go_ret2
      exact ⟨⟨j, 1, rfl, hjr, by omega⟩, H4.out.2.1, HEnd.out _ H4.out.2.2⟩
    · have z0i : ((s4 : Int) == 0) = false := by rw [beq_eq_false_iff_ne]; omega
      have z0n : (s4 == 0) = false := by rw [beq_eq_false_iff_ne]; exact z0
      by_cases z1 : s4 = 12
      · subst z1
        go_wp2_with fail
        go_ret2
        exact ⟨⟨j, 2, rfl, hjr, by omega⟩, H4.out.2.1, HEnd.out _ H4.out.2.2⟩
      · have z1i : ((s4 : Int) == 12) = false := by rw [beq_eq_false_iff_ne]; omega
        have z1n : (s4 == 12) = false := by rw [beq_eq_false_iff_ne]; exact z1
        go_wp2_with fail
        go_ret2
        exact ⟨⟨j, 0, rfl, hjr, by omega⟩, H4.out.2.1, HEnd.out _ H4.out.2.2⟩
  · have h50i : ¬ (50 : Int) ≤ (a : Int) + (L : Int) - (a : Int) := by omega
    obtain ⟨c0, c1⟩ := box_cells HBx.out H0.out.2.2 hpq
    have hcall := gMedian_any C w0 HO.out (a + Q) (a + Q * 2) (a + Q * 3) q 0 d x0 ⟨H0.out.2.1, HAt.out _ H0.out.2.2⟩ (by omega) (by omega) (by omega) HQ.out H0.out.1 (by omega)
    rw [HQ1.out, HQ2.out, HQ3.out] at hcall
    go_wp2_with fail
    refine hcall.mono ?_
    rintro e x4 ⟨⟨j, rfl, hj⟩, s4, hs4, hc, ho, hf⟩
    have H4 : Hid (x4.heap[q]? = some (.cells #[.int .i64 (s4 : Int)] 3 (0, 0)) ∧ C.own x4 d ∧ Fr x0 x4 (fun j => j = q)) := ⟨hc, ho, H0.out.2.2.trans hf (fun _ _ h => h)⟩
    have hjr : a ≤ j ∧ j < a + L := by omega
    obtain ⟨k0, -⟩ := one_cell hc
    clear hcall c0 c1 hc ho hf hj
    by_cases z0 : s4 = 0
    · subst z0
      go_wp2_with fail
      go_ret2
      exact ⟨⟨j, 1, rfl, hjr, by omega⟩, H4.out.2.1, HEnd.out _ H4.out.2.2⟩
    · have z0i : ((s4 : Int) == 0) = false := by rw [beq_eq_false_iff_ne]; omega
      have z0n : (s4 == 0) = false := by rw [beq_eq_false_iff_ne]; exact z0
      by_cases z1 : s4 = 12
      · subst z1
        go_wp2_with fail
        go_ret2
        exact ⟨⟨j, 2, rfl, hjr, by omega⟩, H4.out.2.1, HEnd.out _ H4.out.2.2⟩
      · have z1i : ((s4 : Int) == 12) = false := by rw [beq_eq_false_iff_ne]; omega
        have z1n : (s4 == 12) = false := by rw [beq_eq_false_iff_ne]; exact z1
        go_wp2_with fail
        go_ret2
        exact ⟨⟨j, 0, rfl, hjr, by omega⟩, H4.out.2.1, HEnd.out _ H4.out.2.2⟩

end

end Go.Proofs.Ythdlhdeaeaahoaa
