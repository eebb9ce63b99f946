/-
  The walk of the law LifeTouch, under the condition that life's functions answer as their contracts say.
-/
import Derived.Test.YtanimgfhabkmcaaRows
import Derived.Test.YtanimgfhabkmcaaLI
import Derived.Test.YtanimgfhabkmcaaSHelp
import Derived.Test.YtanimgfhabkmcaaJ2
namespace Go.Proofs.Ytanimgfhabkmcaa.lifeTouch
open Go.ChangeShapes Go.WideShapes Go.ChangeAt Go.RowKit

theorem touch_ord (A B C : Nat) (T : Int) : lOrd ((1, 2), (A : Int), (B : Int)) ((1, 2), (C : Int), T) = !decide (B < C) := by
  unfold lOrd
  rw [eLess_irrefl, decide_eq_true rfl, decide_eq_true (show (0 : Int) ≤ (B : Int) by omega)]
  simp
theorem touch_check (A B C : Nat) (T : Int) (hA : A < 8) (hB : B < 8) (hC : C < 8) (hT : T < 8) : lifeCheckF 3 [((1, 2), (A : Int), (B : Int)), ((1, 2), (C : Int), T)] = if B ≤ A then (0, 23) else if (0 ≤ T ∧ T ≤ C) ∨ C ≤ B then (1, 23) else (0, 0) := by
  unfold lifeCheckF
  rw [if_neg (by omega)]
  by_cases h1 : B ≤ A
  · rw [if_pos h1]
    exact lchk_to (by dsimp only; omega) (show eRight 1 2 3 = true by decide) (by dsimp only; omega)
  · rw [if_neg h1, lchk_step (by dsimp only; omega) (show eRight 1 2 3 = true by decide) (by dsimp only; omega) rfl]
    by_cases h2 : 0 ≤ T ∧ T ≤ C
    · rw [if_pos (.inl h2)]
      exact lchk_to (by dsimp only; omega) (show eRight 1 2 3 = true by decide) h2
    · by_cases h3 : C ≤ B
      · rw [if_pos (.inr h3)]
        refine lchk_order (by dsimp only; omega) (show eRight 1 2 3 = true by decide) h2 ?_
        rw [Option.any_some, touch_ord, decide_eq_false (by omega)]
        rfl
      · rw [if_neg (by omega), lchk_step (by dsimp only; omega) (show eRight 1 2 3 = true by decide) h2 (by rw [Option.any_some, touch_ord, decide_eq_true (by omega)]; rfl), lchkF]
theorem touch_back (A B C : Nat) (T : Int) : (backE [] [((1, 2), (A : Int), (B : Int)), ((1, 2), (C : Int), T)]).length = if 0 ≤ T then 4 else 3 := by
  rw [backE_length]
  unfold lEv
  have h : (0 : Int) ≤ (B : Int) := by omega
  simp only [List.flatMap_cons, List.flatMap_nil, if_pos h]
  split <;> rfl

set_option maxRecDepth 4000 in
set_option maxHeartbeats 6400000 in
theorem walkM (M : LI) (a0 a1 a2 a3 : Int) (a4 : Bool) (w : World) (w0 : (Lit.int .u8 a0).wf = true) (w1 : (Lit.int .u8 a1).wf = true) (w2 : (Lit.int .u8 a2).wf = true) (w3 : (Lit.int .u8 a3).wf = true) :
    Calls Try.prog 7 #[.int .u8 a0, .int .u8 a1, .int .u8 a2, .int .u8 a3, .bool a4] w fun e w' => e = .returned (.bool true) ∧ Below w.heap.size w w' := by
  obtain ⟨a, rfl, ha⟩ := eu8_nat w0
  obtain ⟨A, hA⟩ : ∃ k, k = a % 8 := ⟨_, rfl⟩
  have ma1 : (a : Int).tmod 8 = (A : Int) := by rw [Int.tmod_eq_emod_of_nonneg (by omega)]; omega
  have ma2 : (a : Int) % 8 = (A : Int) := by omega
  have va : IntKind.i64.wrap (A : Int) = (A : Int) := IntWalk.i64_in _ (by omega)
  have HA : A < 8 := by omega
  obtain ⟨b, rfl, hb⟩ := eu8_nat w1
  obtain ⟨B, hB⟩ : ∃ k, k = b % 8 := ⟨_, rfl⟩
  have mb1 : (b : Int).tmod 8 = (B : Int) := by rw [Int.tmod_eq_emod_of_nonneg (by omega)]; omega
  have mb2 : (b : Int) % 8 = (B : Int) := by omega
  have vb : IntKind.i64.wrap (B : Int) = (B : Int) := IntWalk.i64_in _ (by omega)
  have HB : B < 8 := by omega
  obtain ⟨c, rfl, hc⟩ := eu8_nat w2
  obtain ⟨C, hC⟩ : ∃ k, k = c % 8 := ⟨_, rfl⟩
  have mc1 : (c : Int).tmod 8 = (C : Int) := by rw [Int.tmod_eq_emod_of_nonneg (by omega)]; omega
  have mc2 : (c : Int) % 8 = (C : Int) := by omega
  have vc : IntKind.i64.wrap (C : Int) = (C : Int) := IntWalk.i64_in _ (by omega)
  have HC : C < 8 := by omega
  obtain ⟨d, rfl, hd⟩ := eu8_nat w3
  obtain ⟨D, hD⟩ : ∃ k, k = d % 8 := ⟨_, rfl⟩
  have md1 : (d : Int).tmod 8 = (D : Int) := by rw [Int.tmod_eq_emod_of_nonneg (by omega)]; omega
  have md2 : (d : Int) % 8 = (D : Int) := by omega
  have vd : IntKind.i64.wrap (D : Int) = (D : Int) := IntWalk.i64_in _ (by omega)
  have HD : D < 8 := by omega
  have vdd : IntKind.i64.wrap (d : Int) = (d : Int) := IntWalk.i64_in _ (by omega)
  clear w0 w1 w2 w3 hA hB hC hD
  cases a4 with
  | false =>
    obtain ⟨T, hT⟩ : ∃ T : Int, T = (D : Int) := ⟨_, rfl⟩
    have hT8 : T < 8 := by omega
    have hck := touch_check A B C T HA HB HC hT8
    have hbk := touch_back A B C T
    have HTlo : Hid (-9223372036854775808 ≤ T) := by show _ ≤ _; omega
    have HT8 : Hid (T < 8) := hT8
    have Hck : Hid _ := hck
    have Hbk : Hid _ := hbk
    have HTe : Hid _ := hT
    clear hck hbk hT hT8
    go_enter Try.func7, Try.ntmps7
    go_wp2_with fail
    refine (lknown_any M w).mono ?_
    rintro e w1 ⟨rfl, hf1⟩
    have H01 : Hid (Fr w w1 (fun _ => False)) := hf1
    have Hf1 : Hid (Fr w w1 (fun _ => False)) := hf1
    clear hf1
    go_upto_region 6 with fail
    obtain ⟨pe, hpe⟩ : ∃ p, p = w1.heap.size := ⟨_, rfl⟩
    obtain ⟨px, hpx⟩ : ∃ p, p = pe + 1 := ⟨_, rfl⟩
    obtain ⟨py, hpy⟩ : ∃ p, p = px + 1 := ⟨_, rfl⟩
    obtain ⟨w2, hw2⟩ : ∃ x, x = (((w1.alloc (.cells #[.int .u32 1, .int .u32 2] 54)).alloc (.cells #[.int .u32 1, .int .u32 2, .int .i64 (A : Int), .int .i64 (B : Int)] 56)).alloc (.cells #[.int .u32 1, .int .u32 2, .int .i64 (C : Int), .int .i64 (D : Int)] 56)) := ⟨_, rfl⟩
    rw [← hw2, ← hpe, ← hpx, ← hpy]
    have hx2 : w2.heap[px]? = some (.cells #[.int .u32 1, .int .u32 2, .int .i64 (A : Int), .int .i64 (B : Int)] 56 (0, 0)) := by
      have h0 := heap_alloc_new (w1.alloc (.cells #[.int .u32 1, .int .u32 2] 54)) (.cells #[.int .u32 1, .int .u32 2, .int .i64 (A : Int), .int .i64 (B : Int)] 56)
      have e : (w1.alloc (.cells #[.int .u32 1, .int .u32 2] 54)).heap.size = px := by rw [hpx, hpe]; simp
      rw [e] at h0
      rw [hw2]
      exact blk_alloc _ h0
    have hy2 : w2.heap[py]? = some (.cells #[.int .u32 1, .int .u32 2, .int .i64 (C : Int), .int .i64 (D : Int)] 56 (0, 0)) := by
      have h0 := heap_alloc_new ((w1.alloc (.cells #[.int .u32 1, .int .u32 2] 54)).alloc (.cells #[.int .u32 1, .int .u32 2, .int .i64 (A : Int), .int .i64 (B : Int)] 56)) (.cells #[.int .u32 1, .int .u32 2, .int .i64 (C : Int), .int .i64 (D : Int)] 56)
      rw [hw2, hpy, hpx, hpe]
      simpa using h0
    have Hxy : Hid (px < py ∧ w.heap.size ≤ px) := by have := Hf1.out.size; exact ⟨by omega, by omega⟩
    have Hx2 : Hid _ := hx2
    have Hy2 : Hid _ := hy2
    have Hf2 : Hid (Fr w w2 (fun _ => False)) := by show Fr _ _ _; rw [hw2]; exact ((Hf1.out.alloc _).alloc _).alloc _
    clear hpe hpx hpy hw2 hx2 hy2
    obtain rfl := HTe.out
    go_upto_region 8 with fail
    obtain ⟨w3, hw3⟩ : ∃ x, x = w2 := ⟨_, rfl⟩
    subst hw3
    have Hx3 : Hid _ := Hx2.out
    have Hy3 : Hid _ := Hy2.out
    have Hf3 : Hid (Fr w w3 (fun _ => False)) := Hf2.out
    clear Hx2 Hy2 Hf2
    have Hfit : Hid (∀ x ∈ [((1, 2), (A : Int), (B : Int)), ((1, 2), (C : Int), (D : Int))], LfFit x) := by
      intro x hx
      have h1 := HTlo.out
      have h2 := HT8.out
      simp only [List.mem_cons, List.not_mem_nil, or_false] at hx
      rcases hx with rfl | rfl <;> exact ⟨⟨(show (1 : Nat) < 4294967296 by decide), (show (2 : Nat) < 4294967296 by decide)⟩, ⟨by dsimp only; omega, by dsimp only; omega⟩, by dsimp only; omega, by dsimp only; omega⟩
    obtain ⟨x0, x1, x2, x3⟩ := four_cells Hx3.out
    obtain ⟨y0, y1, y2, y3⟩ := four_cells Hy3.out
    go_wp2_with fail
    have hlit : RdL (w3.alloc (.cells #[.int .u32 1, .int .u32 2, .int .i64 (A : Int), .int .i64 (B : Int), .int .u32 1, .int .u32 2, .int .i64 (C : Int), .int .i64 (D : Int)] 56)) (.slice (some ⟨w3.heap.size, 0, none⟩) 2 2) [((1, 2), (A : Int), (B : Int)), ((1, 2), (C : Int), (D : Int))] := holdsN_lit 4 w3 56 2 (lrow [((1, 2), (A : Int), (B : Int)), ((1, 2), (C : Int), (D : Int))]) rfl (by omega)
    obtain ⟨⟨ci, ce⟩, hC⟩ : ∃ R, R = lifeCheckF 3 [((1, 2), (A : Int), (B : Int)), ((1, 2), (C : Int), (D : Int))] := ⟨_, rfl⟩
    refine (M.check 3 _ _ _ hlit (by decide) (by simp) Hfit.out).mono ?_
    rw [← hC]
    have HC : Hid _ := hC
    rintro r w4 ⟨rfl, g⟩
    have G4 : Hid (Fr w3 w4 (fun _ => False)) := ((Fr.refl w3 (fun _ => False)).alloc _).none g
    clear g hlit x0 x1 x2 x3 y0 y1 y2 y3 hC
    dsimp only
    obtain ⟨x0, x1, x2, x3⟩ := four_cells (G4.out.kept Hx3.out (fun h => h))
    obtain ⟨y0, y1, y2, y3⟩ := four_cells (G4.out.kept Hy3.out (fun h => h))
    go_wp2_with fail
    have hlit : RdL (w4.alloc (.cells #[.int .u32 1, .int .u32 2, .int .i64 (A : Int), .int .i64 (B : Int), .int .u32 1, .int .u32 2, .int .i64 (C : Int), .int .i64 (D : Int)] 56)) (.slice (some ⟨w4.heap.size, 0, none⟩) 2 2) [((1, 2), (A : Int), (B : Int)), ((1, 2), (C : Int), (D : Int))] := holdsN_lit 4 w4 56 2 (lrow [((1, 2), (A : Int), (B : Int)), ((1, 2), (C : Int), (D : Int))]) rfl (by omega)
    obtain ⟨⟨bn, be, bx⟩, hBk⟩ : ∃ R, R = backF 3 [((1, 2), (A : Int), (B : Int)), ((1, 2), (C : Int), (D : Int))] := ⟨_, rfl⟩
    refine (M.back 3 _ _ _ hlit (by decide) (by simp) Hfit.out).mono ?_
    rw [← hBk]
    have HBk : Hid _ := hBk
    rintro r w5 ⟨⟨v5, rfl, hv5⟩, g⟩
    have G5 : Hid (Fr w w5 (fun _ => False)) := (Hf3.out.none G4.out).none (((Fr.refl w4 (fun _ => False)).alloc _).none g)
    obtain ⟨a5, c5, rfl, hc5⟩ := hv5.form
    clear g hlit x0 x1 x2 x3 y0 y1 y2 y3 hBk hv5
    have Hh : Hid (histV bn (.slice a5 be.length c5) = .agg #[.int .u64 (bn : Int), .slice a5 be.length c5]) := rfl
    dsimp only
    rw [Hh.out]
    have Hbx : Hid (bx = ce) := by
      have h1 := HBk.out
      unfold backF at h1
      rw [← HC.out] at h1
      dsimp only at h1
      split at h1
      · rename_i h0
        simp only [Prod.mk.injEq] at h1
        exact h1.2.2.trans h0.symm
      · simp only [Prod.mk.injEq] at h1
        exact h1.2.2
    have Hbe : Hid (ce = 0 → be.length = if 0 ≤ (D : Int) then 4 else 3) := fun h0 => by
      have h1 := HBk.out
      unfold backF at h1
      rw [← HC.out] at h1
      dsimp only at h1
      rw [if_pos h0] at h1
      simp only [Prod.mk.injEq] at h1
      rw [h1.2.1]
      exact Hbk.out
    have HC2 : Hid ((ci, ce) = if B ≤ A then (0, 23) else if (0 ≤ (D : Int) ∧ (D : Int) ≤ C) ∨ C ≤ B then (1, 23) else (0, 0)) := by show _ = _; rw [HC.out]; exact Hck.out
    obtain rfl := Hbx.out
    obtain ⟨BL, hBL⟩ : ∃ BL, BL = be.length := ⟨_, rfl⟩
    rw [← hBL] at hc5 ⊢
    have HBL : Hid _ := hBL
    clear hBL
    go_upto_region 10 with fail
    obtain ⟨ph, hph⟩ : ∃ p, p = w5.heap.size := ⟨_, rfl⟩
    obtain ⟨w6, hw6⟩ : ∃ x, x = w5.alloc (.cells #[.int .u64 (bn : Int), .slice a5 BL c5] 25) := ⟨_, rfl⟩
    rw [← hw6, ← hph]
    have h6 : w6.heap[ph]? = some (.cells #[.int .u64 (bn : Int), .slice a5 BL c5] 25 (0, 0)) := by rw [hw6, hph]; exact heap_alloc_new _ _
    obtain ⟨c0', c1'⟩ : w6.cell? ⟨ph, 0, none⟩ = some (.int .u64 (bn : Int)) ∧ w6.cell? ⟨ph, 1, none⟩ = some (.slice a5 BL c5) := ⟨two_cell0 h6, two_cell1 h6⟩
    have Hfo : Hid (Fr w w6 (fun _ => False)) := by show Fr _ _ _; rw [hw6]; exact G5.out.alloc _
    clear hph hw6 h6
    have ee : ((bx : Int) != (bx : Int)) = false := by simp
    by_cases h1 : B ≤ A
    · have d1 : decide ((B : Int) ≤ (A : Int)) = true := decide_eq_true (by omega)
      have d1' : decide (B ≤ A) = true := decide_eq_true h1
      have hcc := HC2.out
      rw [if_pos h1] at hcc
      simp only [Prod.mk.injEq] at hcc
      obtain ⟨rfl, rfl⟩ := hcc
      go_wp2
      go_ret
      exact ⟨rfl, ebelow Hfo.out⟩
    have d1 : decide ((B : Int) ≤ (A : Int)) = false := decide_eq_false (by omega)
    have d1' : decide (B ≤ A) = false := decide_eq_false h1
    by_cases h3 : C ≤ B
    · have d3 : decide ((C : Int) ≤ (B : Int)) = true := decide_eq_true (by omega)
      have d3' : decide (C ≤ B) = true := decide_eq_true h3
      have hcc := HC2.out
      rw [if_neg h1, if_pos (.inr h3)] at hcc
      simp only [Prod.mk.injEq] at hcc
      obtain ⟨rfl, rfl⟩ := hcc
      by_cases h2 : D ≤ C
      · have d2 : decide ((D : Int) ≤ (C : Int)) = true := decide_eq_true (by omega)
        have d2' : decide (D ≤ C) = true := decide_eq_true h2
        go_wp2
        go_ret
        exact ⟨rfl, ebelow Hfo.out⟩
      · have d2 : decide ((D : Int) ≤ (C : Int)) = false := decide_eq_false (by omega)
        have d2' : decide (D ≤ C) = false := decide_eq_false h2
        go_wp2
        go_ret
        exact ⟨rfl, ebelow Hfo.out⟩
    have d3 : decide ((C : Int) ≤ (B : Int)) = false := decide_eq_false (by omega)
    have d3' : decide (C ≤ B) = false := decide_eq_false h3
    by_cases h2 : D ≤ C
    · have d2 : decide ((D : Int) ≤ (C : Int)) = true := decide_eq_true (by omega)
      have d2' : decide (D ≤ C) = true := decide_eq_true h2
      have hcc := HC2.out
      rw [if_neg h1, if_pos (.inl ⟨by omega, by omega⟩)] at hcc
      simp only [Prod.mk.injEq] at hcc
      obtain ⟨rfl, rfl⟩ := hcc
      go_wp2
      go_ret
      exact ⟨rfl, ebelow Hfo.out⟩
    · have d2 : decide ((D : Int) ≤ (C : Int)) = false := decide_eq_false (by omega)
      have d2' : decide (D ≤ C) = false := decide_eq_false h2
      have hcc := HC2.out
      rw [if_neg h1, if_neg (by omega)] at hcc
      simp only [Prod.mk.injEq] at hcc
      obtain ⟨rfl, rfl⟩ := hcc
      have hbl : BL = 4 := by rw [HBL.out, Hbe.out rfl, if_pos (by omega)]
      subst hbl
      go_wp2
      go_ret
      exact ⟨rfl, ebelow Hfo.out⟩
  | true =>
    obtain ⟨T, hT⟩ : ∃ T : Int, T = (-(d : Int) - 1) := ⟨_, rfl⟩
    have hT8 : T < 8 := by omega
    have hck := touch_check A B C T HA HB HC hT8
    have hbk := touch_back A B C T
    have HTlo : Hid (-9223372036854775808 ≤ T) := by show _ ≤ _; omega
    have HT8 : Hid (T < 8) := hT8
    have Hck : Hid _ := hck
    have Hbk : Hid _ := hbk
    have HTe : Hid _ := hT
    clear hck hbk hT hT8
    go_enter Try.func7, Try.ntmps7
    go_wp2_with fail
    refine (lknown_any M w).mono ?_
    rintro e w1 ⟨rfl, hf1⟩
    have H01 : Hid (Fr w w1 (fun _ => False)) := hf1
    have Hf1 : Hid (Fr w w1 (fun _ => False)) := hf1
    clear hf1
    go_upto_region 6 with fail
    obtain ⟨pe, hpe⟩ : ∃ p, p = w1.heap.size := ⟨_, rfl⟩
    obtain ⟨px, hpx⟩ : ∃ p, p = pe + 1 := ⟨_, rfl⟩
    obtain ⟨py, hpy⟩ : ∃ p, p = px + 1 := ⟨_, rfl⟩
    obtain ⟨w2, hw2⟩ : ∃ x, x = (((w1.alloc (.cells #[.int .u32 1, .int .u32 2] 54)).alloc (.cells #[.int .u32 1, .int .u32 2, .int .i64 (A : Int), .int .i64 (B : Int)] 56)).alloc (.cells #[.int .u32 1, .int .u32 2, .int .i64 (C : Int), .int .i64 (D : Int)] 56)) := ⟨_, rfl⟩
    rw [← hw2, ← hpe, ← hpx, ← hpy]
    have hx2 : w2.heap[px]? = some (.cells #[.int .u32 1, .int .u32 2, .int .i64 (A : Int), .int .i64 (B : Int)] 56 (0, 0)) := by
      have h0 := heap_alloc_new (w1.alloc (.cells #[.int .u32 1, .int .u32 2] 54)) (.cells #[.int .u32 1, .int .u32 2, .int .i64 (A : Int), .int .i64 (B : Int)] 56)
      have e : (w1.alloc (.cells #[.int .u32 1, .int .u32 2] 54)).heap.size = px := by rw [hpx, hpe]; simp
      rw [e] at h0
      rw [hw2]
      exact blk_alloc _ h0
    have hy2 : w2.heap[py]? = some (.cells #[.int .u32 1, .int .u32 2, .int .i64 (C : Int), .int .i64 (D : Int)] 56 (0, 0)) := by
      have h0 := heap_alloc_new ((w1.alloc (.cells #[.int .u32 1, .int .u32 2] 54)).alloc (.cells #[.int .u32 1, .int .u32 2, .int .i64 (A : Int), .int .i64 (B : Int)] 56)) (.cells #[.int .u32 1, .int .u32 2, .int .i64 (C : Int), .int .i64 (D : Int)] 56)
      rw [hw2, hpy, hpx, hpe]
      simpa using h0
    have Hxy : Hid (px < py ∧ w.heap.size ≤ px) := by have := Hf1.out.size; exact ⟨by omega, by omega⟩
    have Hx2 : Hid _ := hx2
    have Hy2 : Hid _ := hy2
    have Hf2 : Hid (Fr w w2 (fun _ => False)) := by show Fr _ _ _; rw [hw2]; exact ((Hf1.out.alloc _).alloc _).alloc _
    clear hpe hpx hpy hw2 hx2 hy2
    obtain ⟨-, -, -, y3⟩ := four_cells Hy2.out
    have fz := four_free (k := 3) Hy2.out
    have wn1 : wrap64 (-(d : Int)) = -(d : Int) := IntWalk.wrap64_in _ (by omega)
    have wn2 : wrap64 (-(d : Int) - 1) = -(d : Int) - 1 := IntWalk.wrap64_in _ (by omega)
    go_upto_region 8 with fail
    rw [show (-(d : Int) - 1) = T from HTe.out.symm]
    obtain ⟨w3, hw3⟩ : ∃ x, x = w2.setCell ⟨py, 3, none⟩ (.int .i64 T) := ⟨_, rfl⟩
    rw [← hw3]
    have Hx3 : Hid (w3.heap[px]? = some (.cells #[.int .u32 1, .int .u32 2, .int .i64 (A : Int), .int .i64 (B : Int)] 56 (0, 0))) := by show _ = _; rw [hw3]; exact blk_set_other Hx2.out (by have := Hxy.out; show px ≠ py; omega)
    have Hy3 : Hid (w3.heap[py]? = some (.cells #[.int .u32 1, .int .u32 2, .int .i64 (C : Int), .int .i64 T] 56 (0, 0))) := by show _ = _; rw [hw3]; exact four_put3 Hy2.out _
    have Hf3 : Hid (Fr w w3 (fun _ => False)) := by show Fr _ _ _; rw [hw3]; exact Hf2.out.newer (fr_cell w2 _ _ _) (fun k h => by have := Hxy.out; omega)
    clear y3 fz hw3 Hx2 Hy2 Hf2
    have Hfit : Hid (∀ x ∈ [((1, 2), (A : Int), (B : Int)), ((1, 2), (C : Int), T)], LfFit x) := by
      intro x hx
      have h1 := HTlo.out
      have h2 := HT8.out
      simp only [List.mem_cons, List.not_mem_nil, or_false] at hx
      rcases hx with rfl | rfl <;> exact ⟨⟨(show (1 : Nat) < 4294967296 by decide), (show (2 : Nat) < 4294967296 by decide)⟩, ⟨by dsimp only; omega, by dsimp only; omega⟩, by dsimp only; omega, by dsimp only; omega⟩
    obtain ⟨x0, x1, x2, x3⟩ := four_cells Hx3.out
    obtain ⟨y0, y1, y2, y3⟩ := four_cells Hy3.out
    go_wp2_with fail
    have hlit : RdL (w3.alloc (.cells #[.int .u32 1, .int .u32 2, .int .i64 (A : Int), .int .i64 (B : Int), .int .u32 1, .int .u32 2, .int .i64 (C : Int), .int .i64 T] 56)) (.slice (some ⟨w3.heap.size, 0, none⟩) 2 2) [((1, 2), (A : Int), (B : Int)), ((1, 2), (C : Int), T)] := holdsN_lit 4 w3 56 2 (lrow [((1, 2), (A : Int), (B : Int)), ((1, 2), (C : Int), T)]) rfl (by omega)
    obtain ⟨⟨ci, ce⟩, hC⟩ : ∃ R, R = lifeCheckF 3 [((1, 2), (A : Int), (B : Int)), ((1, 2), (C : Int), T)] := ⟨_, rfl⟩
    refine (M.check 3 _ _ _ hlit (by decide) (by simp) Hfit.out).mono ?_
    rw [← hC]
    have HC : Hid _ := hC
    rintro r w4 ⟨rfl, g⟩
    have G4 : Hid (Fr w3 w4 (fun _ => False)) := ((Fr.refl w3 (fun _ => False)).alloc _).none g
    clear g hlit x0 x1 x2 x3 y0 y1 y2 y3 hC
    dsimp only
    obtain ⟨x0, x1, x2, x3⟩ := four_cells (G4.out.kept Hx3.out (fun h => h))
    obtain ⟨y0, y1, y2, y3⟩ := four_cells (G4.out.kept Hy3.out (fun h => h))
    go_wp2_with fail
    have hlit : RdL (w4.alloc (.cells #[.int .u32 1, .int .u32 2, .int .i64 (A : Int), .int .i64 (B : Int), .int .u32 1, .int .u32 2, .int .i64 (C : Int), .int .i64 T] 56)) (.slice (some ⟨w4.heap.size, 0, none⟩) 2 2) [((1, 2), (A : Int), (B : Int)), ((1, 2), (C : Int), T)] := holdsN_lit 4 w4 56 2 (lrow [((1, 2), (A : Int), (B : Int)), ((1, 2), (C : Int), T)]) rfl (by omega)
    obtain ⟨⟨bn, be, bx⟩, hBk⟩ : ∃ R, R = backF 3 [((1, 2), (A : Int), (B : Int)), ((1, 2), (C : Int), T)] := ⟨_, rfl⟩
    refine (M.back 3 _ _ _ hlit (by decide) (by simp) Hfit.out).mono ?_
    rw [← hBk]
    have HBk : Hid _ := hBk
    rintro r w5 ⟨⟨v5, rfl, hv5⟩, g⟩
    have G5 : Hid (Fr w w5 (fun _ => False)) := (Hf3.out.none G4.out).none (((Fr.refl w4 (fun _ => False)).alloc _).none g)
    obtain ⟨a5, c5, rfl, hc5⟩ := hv5.form
    clear g hlit x0 x1 x2 x3 y0 y1 y2 y3 hBk hv5
    have Hh : Hid (histV bn (.slice a5 be.length c5) = .agg #[.int .u64 (bn : Int), .slice a5 be.length c5]) := rfl
    dsimp only
    rw [Hh.out]
    have Hbx : Hid (bx = ce) := by
      have h1 := HBk.out
      unfold backF at h1
      rw [← HC.out] at h1
      dsimp only at h1
      split at h1
      · rename_i h0
        simp only [Prod.mk.injEq] at h1
        exact h1.2.2.trans h0.symm
      · simp only [Prod.mk.injEq] at h1
        exact h1.2.2
    have Hbe : Hid (ce = 0 → be.length = if 0 ≤ T then 4 else 3) := fun h0 => by
      have h1 := HBk.out
      unfold backF at h1
      rw [← HC.out] at h1
      dsimp only at h1
      rw [if_pos h0] at h1
      simp only [Prod.mk.injEq] at h1
      rw [h1.2.1]
      exact Hbk.out
    have HC2 : Hid ((ci, ce) = if B ≤ A then (0, 23) else if (0 ≤ T ∧ T ≤ C) ∨ C ≤ B then (1, 23) else (0, 0)) := by show _ = _; rw [HC.out]; exact Hck.out
    obtain rfl := Hbx.out
    obtain ⟨BL, hBL⟩ : ∃ BL, BL = be.length := ⟨_, rfl⟩
    rw [← hBL] at hc5 ⊢
    have HBL : Hid _ := hBL
    clear hBL
    go_upto_region 10 with fail
    obtain ⟨ph, hph⟩ : ∃ p, p = w5.heap.size := ⟨_, rfl⟩
    obtain ⟨w6, hw6⟩ : ∃ x, x = w5.alloc (.cells #[.int .u64 (bn : Int), .slice a5 BL c5] 25) := ⟨_, rfl⟩
    rw [← hw6, ← hph]
    have h6 : w6.heap[ph]? = some (.cells #[.int .u64 (bn : Int), .slice a5 BL c5] 25 (0, 0)) := by rw [hw6, hph]; exact heap_alloc_new _ _
    obtain ⟨c0', c1'⟩ : w6.cell? ⟨ph, 0, none⟩ = some (.int .u64 (bn : Int)) ∧ w6.cell? ⟨ph, 1, none⟩ = some (.slice a5 BL c5) := ⟨two_cell0 h6, two_cell1 h6⟩
    have Hfo : Hid (Fr w w6 (fun _ => False)) := by show Fr _ _ _; rw [hw6]; exact G5.out.alloc _
    clear hph hw6 h6
    have ee : ((bx : Int) != (bx : Int)) = false := by simp
    by_cases h1 : B ≤ A
    · have d1 : decide ((B : Int) ≤ (A : Int)) = true := decide_eq_true (by omega)
      have d1' : decide (B ≤ A) = true := decide_eq_true h1
      have hcc := HC2.out
      rw [if_pos h1] at hcc
      simp only [Prod.mk.injEq] at hcc
      obtain ⟨rfl, rfl⟩ := hcc
      go_wp2
      go_ret
      exact ⟨rfl, ebelow Hfo.out⟩
    have d1 : decide ((B : Int) ≤ (A : Int)) = false := decide_eq_false (by omega)
    have d1' : decide (B ≤ A) = false := decide_eq_false h1
    by_cases h3 : C ≤ B
    · have d3 : decide ((C : Int) ≤ (B : Int)) = true := decide_eq_true (by omega)
      have d3' : decide (C ≤ B) = true := decide_eq_true h3
      have hcc := HC2.out
      rw [if_neg h1, if_pos (.inr h3)] at hcc
      simp only [Prod.mk.injEq] at hcc
      obtain ⟨rfl, rfl⟩ := hcc
      go_wp2
      go_ret
      exact ⟨rfl, ebelow Hfo.out⟩
    have d3 : decide ((C : Int) ≤ (B : Int)) = false := decide_eq_false (by omega)
    have d3' : decide (C ≤ B) = false := decide_eq_false h3
    have hT0 : T < 0 := by have := HTe.out; omega
    have hcc := HC2.out
    rw [if_neg h1, if_neg (by omega)] at hcc
    simp only [Prod.mk.injEq] at hcc
    obtain ⟨rfl, rfl⟩ := hcc
    have hbl : BL = 3 := by rw [HBL.out, Hbe.out rfl, if_neg (by omega)]
    subst hbl
    go_wp2
    go_ret
    exact ⟨rfl, ebelow Hfo.out⟩

end Go.Proofs.Ytanimgfhabkmcaa.lifeTouch
