/-
  The contract of the reference scanner's life (a line of a table).
-/
import Derived.Test.YtnffjafddbbjaaaGreatDoorJ9
import Derived.Test.YtnffjafddbbjaaaGreatDoorJ8
import Derived.Test.YtnffjafddbbjaaaGreatDoorJ3
namespace Go.Proofs.YtnffjafddbbjaaaGreatDoor
open Go.RowKit

theorem lfSize4 : (Tryz.prog.info? 82).map (·.size) = some 4 := by kernel_rfl
set_option maxRecDepth 4000 in
set_option maxHeartbeats 3200000 in
theorem refLife_any (p : Nat) (s : ByteArray) (c : Sc) (w : World) (h : RSc w p s c) (hok : ScOk s c) (hs : s.size ≤ 1000000000) : Calls Tryz.prog 45 #[.pointer (some ⟨p, 0, none⟩)] w fun r w' =>
    r = .returned (lifeV (lfVal s c)) ∧ RSc w' p s (lfEnd s c) ∧ Fr w w' (fun k => k = p) := by
  have okE : ScOk s (scNum s maxV (lf2 s c)) := scNum_ok (scByte_ok (scNum_ok hok _) _) _
  have ok4 : ScOk s (lf4 s c) := scByte_ok okE _
  have ok5 : ScOk s (scNum s maxT (lf4 s c)) := scNum_ok ok4 _
  have ok6 : ScOk s (lf6 s c) := scByte_ok ok5 _
  have kE := fun z hz => refEdge_any p s c z hz hok hs
  have k4 := fun z hz => refB 32 32 rfl p s (scNum s maxV (lf2 s c)) z hz okE hs
  have k5 := fun z hz => refNumT p s (lf4 s c) z hz ok4 hs
  have k6 := fun z hz => refB 32 32 rfl p s (scNum s maxT (lf4 s c)) z hz ok5 hs
  have kn := fun z hz => refNext_any p s (lf6 s c) z hz
  have HFT : Hid (scNumVal s maxT (lf4 s c) ≤ 4611686018427387903) := scNumVal_le s maxT (lf4 s c)
  have hval : lfVal s c = ((scNumVal s maxV c, scNumVal s maxV (lf2 s c)), (scNumVal s maxT (lf4 s c) : Int), lfToV s (lf6 s c)) := rfl
  have hend : lfEnd s c = scByte s 10 (lfTo s (lf6 s c)) := rfl
  have hE : scNum s maxV (scByte s 32 (scNum s maxV c)) = scNum s maxV (lf2 s c) := rfl
  have hE2 : scNumVal s maxV (scByte s 32 (scNum s maxV c)) = scNumVal s maxV (lf2 s c) := rfl
  have h4 : scByte s 32 (scNum s maxV (lf2 s c)) = lf4 s c := rfl
  have h6 : scByte s 32 (scNum s maxT (lf4 s c)) = lf6 s c := rfl
  rw [hE, hE2] at kE
  rw [h4] at k4
  rw [h6] at k6
  rw [hval, hend]
  clear hval hend hE hE2 h4 h6
  have Ok6 : Hid _ := ok6
  have H : Hid (RSc w p s c) := h
  obtain ⟨U, hU⟩ : ∃ x, x = scNumVal s maxV c := ⟨_, rfl⟩
  obtain ⟨V, hV⟩ : ∃ x, x = scNumVal s maxV (lf2 s c) := ⟨_, rfl⟩
  obtain ⟨FT, hFT⟩ : ∃ x, x = scNumVal s maxT (lf4 s c) := ⟨_, rfl⟩
  obtain ⟨O4, hO4⟩ : ∃ x, x = scByteOk s 32 (scNum s maxV (lf2 s c)) := ⟨_, rfl⟩
  obtain ⟨O6, hO6⟩ : ∃ x, x = scByteOk s 32 (scNum s maxT (lf4 s c)) := ⟨_, rfl⟩
  rw [← hU, ← hV] at kE
  rw [← hO4] at k4
  rw [← hFT] at k5 HFT
  rw [← hO6] at k6
  rw [← hU, ← hV, ← hFT]
  obtain ⟨cE, hcE⟩ : ∃ x, x = scNum s maxV (lf2 s c) := ⟨_, rfl⟩
  obtain ⟨c4, hc4⟩ : ∃ x, x = lf4 s c := ⟨_, rfl⟩
  rw [← hc4] at k4 k5 k6
  obtain ⟨c5, hc5⟩ : ∃ x, x = scNum s maxT c4 := ⟨_, rfl⟩
  obtain ⟨c6, hc6⟩ : ∃ x, x = lf6 s c := ⟨_, rfl⟩
  rw [← hcE] at kE k4
  rw [← hc5] at k5 k6
  rw [← hc6] at k6 kn Ok6 ⊢
  obtain ⟨⟨NB, NO⟩, hn⟩ : ∃ x, x = scNext s c6 := ⟨_, rfl⟩
  rw [← hn] at kn
  dsimp only at kn
  have Hn : Hid _ := hn
  unfold edgeV at kE
  unfold lifeV
  dsimp only at kE ⊢
  obtain ⟨c7, hc7⟩ : ∃ x, x = lfTo s c6 := ⟨_, rfl⟩
  obtain ⟨tv, htv⟩ : ∃ x, x = lfToV s c6 := ⟨_, rfl⟩
  rw [← hc7, ← htv]
  have Hc7 : Hid _ := hc7
  have Htv : Hid _ := htv
  clear hc7 htv
  clear hU hV hFT hO4 hO6 hcE hc4 hc5 hc6 hn h hok okE ok4 ok5 ok6
  go_enter Tryz.func45, Tryz.ntmps45
  go_upto_region 1 with fail
  obtain ⟨q2, hq2⟩ : ∃ q, q = w.heap.size := ⟨_, rfl⟩
  obtain ⟨w1, hw1⟩ : ∃ x, x = w.alloc (.cells #[.int .u32 0, .int .u32 0, .int .i64 0, .int .i64 0] 82) := ⟨_, rfl⟩
  rw [← hw1, ← hq2]
  have Hq2 : Hid (w1.heap[q2]? = some (.cells #[.int .u32 0, .int .u32 0, .int .i64 0, .int .i64 0] 82 (0, 0))) := by show _ = _; rw [hw1, hq2]; exact heap_alloc_new _ _
  have Hw1 : Hid (Fr w w1 (fun k => k = p)) := by show Fr _ _ _; rw [hw1]; exact (Fr.refl _ _).alloc _
  have Hr1 : Hid (RSc w1 p s c) := by show RSc _ _ _ _; rw [hw1]; exact blk_alloc _ H.out
  have Hq2p : Hid (q2 ≠ p ∧ w.heap.size ≤ q2) := ⟨fun e => by have := lt_of_block H.out; omega, by omega⟩
  clear hq2 hw1
  have kE' := kE w1 Hr1.out
  clear kE
  go_wp2_with fail
  refine kE'.mono ?_
  rintro r w2 ⟨rfl, r2, f2⟩
  have Hr2 : Hid (RSc w2 p s cE) := r2
  have Hb2 : Hid (w2.heap[q2]? = some (.cells #[.int .u32 0, .int .u32 0, .int .i64 0, .int .i64 0] 82 (0, 0))) := f2.kept Hq2.out Hq2p.out.1
  have Hf2 : Hid (Fr w w2 (fun k => k = p)) := Hw1.out.trans f2 (fun _ _ h => h)
  clear kE' r2 f2 Hq2
  go_upto_region 2 with fail
  obtain ⟨q3, hq3⟩ : ∃ q, q = w2.heap.size := ⟨_, rfl⟩
  obtain ⟨x3, hx3⟩ : ∃ x, x = w2.alloc (.cells #[.int .u32 (U : Int), .int .u32 (V : Int), .int .i64 0, .int .i64 0] 82) := ⟨_, rfl⟩
  rw [← hx3, ← hq3]
  have Hap : Hid (q2 ≠ p ∧ q3 ≠ p ∧ q2 ≠ q3 ∧ w.heap.size ≤ q2 ∧ w.heap.size ≤ q3) := ⟨Hq2p.out.1, fun e => by have := lt_of_block Hr2.out; omega, fun e => by have := lt_of_block Hb2.out; omega, Hq2p.out.2, by have := Hf2.out.size; omega⟩
  have Hbx3 : Hid (x3.heap[q2]? = some (.cells #[.int .u32 0, .int .u32 0, .int .i64 0, .int .i64 0] 82 (0, 0)) ∧ x3.heap[q3]? = some (.cells #[.int .u32 (U : Int), .int .u32 (V : Int), .int .i64 0, .int .i64 0] 82 (0, 0))) := ⟨by rw [hx3]; exact blk_alloc _ Hb2.out, by rw [hx3, hq3]; exact heap_alloc_new _ _⟩
  have Hrx3 : Hid (RSc x3 p s cE) := by show RSc _ _ _ _; rw [hx3]; exact blk_alloc _ Hr2.out
  have Hfx3 : Hid (Fr w x3 (fun k => k = p)) := by show Fr _ _ _; rw [hx3]; exact Hf2.out.alloc _
  have wF : IntKind.i64.wrap (FT : Int) = (FT : Int) := IntWalk.i64_in _ (by have := HFT.out; omega)
  clear hq3 hx3 Hr2 Hb2
  have kk := k4 x3 Hrx3.out
  go_wp2_with fail
  refine kk.mono ?_
  rintro r x4 ⟨rfl, r0, f0⟩
  have Hrx4 : Hid (RSc x4 p s c4) := r0
  have Hbx4 : Hid (x4.heap[q2]? = some (.cells #[.int .u32 0, .int .u32 0, .int .i64 0, .int .i64 0] 82 (0, 0)) ∧ x4.heap[q3]? = some (.cells #[.int .u32 (U : Int), .int .u32 (V : Int), .int .i64 0, .int .i64 0] 82 (0, 0))) := ⟨f0.kept Hbx3.out.1 Hap.out.1, f0.kept Hbx3.out.2 Hap.out.2.1⟩
  have Hfx4 : Hid (Fr w x4 (fun k => k = p)) := Hfx3.out.trans f0 (fun _ _ h => h)
  clear kk r0 f0
  clear k4
  have kk := k5 x4 Hrx4.out
  go_wp2_with fail
  refine kk.mono ?_
  rintro r x5 ⟨rfl, r0, f0⟩
  have Hrx5 : Hid (RSc x5 p s c5) := r0
  have Hbx5 : Hid (x5.heap[q2]? = some (.cells #[.int .u32 0, .int .u32 0, .int .i64 0, .int .i64 0] 82 (0, 0)) ∧ x5.heap[q3]? = some (.cells #[.int .u32 (U : Int), .int .u32 (V : Int), .int .i64 0, .int .i64 0] 82 (0, 0))) := ⟨f0.kept Hbx4.out.1 Hap.out.1, f0.kept Hbx4.out.2 Hap.out.2.1⟩
  have Hfx5 : Hid (Fr w x5 (fun k => k = p)) := Hfx4.out.trans f0 (fun _ _ h => h)
  clear kk r0 f0
  clear k5
  obtain ⟨-, -, z2, -⟩ := four_cells Hbx5.out.2
  have y2 := four_free (k := 2) Hbx5.out.2
  go_upto_region 4 with fail
  obtain ⟨x5b, hx5b⟩ : ∃ x, x = x5.setCell ⟨q3, 2, none⟩ (.int .i64 (FT : Int)) := ⟨_, rfl⟩
  have f0 : Fr x5 x5b (fun k => k = q3) := by rw [hx5b]; exact fr_put _ _ _ _
  have Hbx5b : Hid (x5b.heap[q2]? = some (.cells #[.int .u32 0, .int .u32 0, .int .i64 0, .int .i64 0] 82 (0, 0)) ∧ x5b.heap[q3]? = some (.cells #[.int .u32 (U : Int), .int .u32 (V : Int), .int .i64 (FT : Int), .int .i64 0] 82 (0, 0))) := ⟨f0.kept Hbx5.out.1 (fun h => Hap.out.2.2.1 h), by rw [hx5b]; exact four_setC Hbx5.out.2⟩
  have Hrx5b : Hid (RSc x5b p s c5) := f0.kept Hrx5.out (fun h => Hap.out.2.1 h.symm)
  have Hfx5b : Hid (Fr w x5b (fun k => k = p)) := Hfx5.out.newer f0 (fun k hk => by rw [hk]; exact Hap.out.2.2.2.2)
  rw [← hx5b]
  clear f0 hx5b z2 y2
  have kk := k6 x5b Hrx5b.out
  go_wp2_with fail
  refine kk.mono ?_
  rintro r x6 ⟨rfl, r0, f0⟩
  have Hrx6 : Hid (RSc x6 p s c6) := r0
  have Hbx6 : Hid (x6.heap[q2]? = some (.cells #[.int .u32 0, .int .u32 0, .int .i64 0, .int .i64 0] 82 (0, 0)) ∧ x6.heap[q3]? = some (.cells #[.int .u32 (U : Int), .int .u32 (V : Int), .int .i64 (FT : Int), .int .i64 0] 82 (0, 0))) := ⟨f0.kept Hbx5b.out.1 Hap.out.1, f0.kept Hbx5b.out.2 Hap.out.2.1⟩
  have Hfx6 : Hid (Fr w x6 (fun k => k = p)) := Hfx5b.out.trans f0 (fun _ _ h => h)
  clear kk r0 f0
  clear k6
  have kk := kn x6 Hrx6.out
  go_wp2_with fail
  refine kk.mono ?_
  rintro r x7 ⟨rfl, f0⟩
  have Hrx7 : Hid (RSc x7 p s c6) := f0.kept Hrx6.out (fun h => h)
  have Hbx7 : Hid (x7.heap[q2]? = some (.cells #[.int .u32 0, .int .u32 0, .int .i64 0, .int .i64 0] 82 (0, 0)) ∧ x7.heap[q3]? = some (.cells #[.int .u32 (U : Int), .int .u32 (V : Int), .int .i64 (FT : Int), .int .i64 0] 82 (0, 0))) := ⟨f0.kept Hbx6.out.1 (fun h => h), f0.kept Hbx6.out.2 (fun h => h)⟩
  have Hfx7 : Hid (Fr w x7 (fun k => k = p)) := Hfx6.out.trans f0 (fun _ _ h => h.elim)
  clear kk f0
  clear kn
  by_cases hcase : scNext s c6 = (45, true)
  · -- no end
    have hTo : lfTo s c6 = scByte s 45 c6 := if_pos hcase
    have hTv : lfToV s c6 = -1 := if_pos hcase
    have e1 : NB = 45 ∧ NO = true := by have h1 := Hn.out.trans hcase; simpa using h1
    obtain ⟨rfl, rfl⟩ := e1
    obtain rfl : tv = -1 := Htv.out.trans hTv
    have kb := refB 45 45 rfl p s c6 x7 Hrx7.out Ok6.out hs
    have hc7 : c7 = scByte s 45 c6 := Hc7.out.trans hTo
    obtain ⟨O7, hO7⟩ : ∃ x, x = scByteOk s 45 c6 := ⟨_, rfl⟩
    have Ok7 : Hid (ScOk s c7) := by show ScOk _ _; rw [hc7]; exact scByte_ok Ok6.out _
    rw [← hc7, ← hO7] at kb
    have e45 : (((45 : Nat) : Int) == 45) = true := rfl
    clear hcase hTo hTv hc7 hO7 Hn Hc7 Htv
    skip
    go_wp2_with fail
    refine kb.mono ?_
    rintro r x7b ⟨rfl, r0, f0⟩
    have Hrx7b : Hid (RSc x7b p s c7) := r0
    have Hbx7b : Hid (x7b.heap[q2]? = some (.cells #[.int .u32 0, .int .u32 0, .int .i64 0, .int .i64 0] 82 (0, 0)) ∧ x7b.heap[q3]? = some (.cells #[.int .u32 (U : Int), .int .u32 (V : Int), .int .i64 (FT : Int), .int .i64 0] 82 (0, 0))) := ⟨f0.kept Hbx7.out.1 Hap.out.1, f0.kept Hbx7.out.2 Hap.out.2.1⟩
    have Hfx7b : Hid (Fr w x7b (fun k => k = p)) := Hfx7.out.trans f0 (fun _ _ h => h)
    clear kb r0 f0
    obtain ⟨-, -, -, z3⟩ := four_cells Hbx7b.out.2
    have y3 := four_free (k := 3) Hbx7b.out.2
    go_upto_region 10 with fail
    obtain ⟨x8, hx8⟩ : ∃ x, x = x7b.setCell ⟨q3, 3, none⟩ (.int .i64 (-1)) := ⟨_, rfl⟩
    have f0 : Fr x7b x8 (fun k => k = q3) := by rw [hx8]; exact fr_put _ _ _ _
    have Hbx8 : Hid (x8.heap[q2]? = some (.cells #[.int .u32 0, .int .u32 0, .int .i64 0, .int .i64 0] 82 (0, 0)) ∧ x8.heap[q3]? = some (.cells #[.int .u32 (U : Int), .int .u32 (V : Int), .int .i64 (FT : Int), .int .i64 (-1)] 82 (0, 0))) := ⟨f0.kept Hbx7b.out.1 (fun h => Hap.out.2.2.1 h), by rw [hx8]; exact four_setD Hbx7b.out.2⟩
    have Hrx8 : Hid (RSc x8 p s c7) := f0.kept Hrx7b.out (fun h => Hap.out.2.1 h.symm)
    have Hfx8 : Hid (Fr w x8 (fun k => k = p)) := Hfx7b.out.newer f0 (fun k hk => by rw [hk]; exact Hap.out.2.2.2.2)
    rw [← hx8]
    clear f0 hx8 z3 y3
    have kk := refB 10 10 rfl p s c7 x8 Hrx8.out Ok7.out hs
    go_wp2_with fail
    refine kk.mono ?_
    rintro r x9 ⟨rfl, r0, f0⟩
    have Hrx9 : Hid (RSc x9 p s (scByte s 10 c7)) := r0
    have Hbx9 : Hid (x9.heap[q2]? = some (.cells #[.int .u32 0, .int .u32 0, .int .i64 0, .int .i64 0] 82 (0, 0)) ∧ x9.heap[q3]? = some (.cells #[.int .u32 (U : Int), .int .u32 (V : Int), .int .i64 (FT : Int), .int .i64 (-1)] 82 (0, 0))) := ⟨f0.kept Hbx8.out.1 Hap.out.1, f0.kept Hbx8.out.2 Hap.out.2.1⟩
    have Hfx9 : Hid (Fr w x9 (fun k => k = p)) := Hfx8.out.trans f0 (fun _ _ h => h)
    clear kk r0 f0
    obtain ⟨z0, z1, z2, z3⟩ := four_cells Hbx9.out.2
    obtain ⟨u0, u1, u2, u3⟩ := four_cells Hbx9.out.1
    have y0 := four_free (k := 0) Hbx9.out.1
    have y1 := four_free (k := 1) Hbx9.out.1
    have y2 := four_free (k := 2) Hbx9.out.1
    have y3 := four_free (k := 3) Hbx9.out.1
    have Hrow : Hid _ := four_setD (four_setC (four_setB (four_setA Hbx9.out.1 (u := .int .u32 (U : Int))) (u := .int .u32 (V : Int))) (u := .int .i64 (FT : Int))) (u := .int .i64 (-1))
    have hfz : Fr x9 ((((x9.setCell ⟨q2, 0, none⟩ (.int .u32 (U : Int))).setCell ⟨q2, 1, none⟩ (.int .u32 (V : Int))).setCell ⟨q2, 2, none⟩ (.int .i64 (FT : Int))).setCell ⟨q2, 3, none⟩ (.int .i64 (-1))) (fun k => k = q2) := (((fr_put _ _ _ _).trans (fr_put _ _ _ _) (fun _ _ h => h)).trans (fr_put _ _ _ _) (fun _ _ h => h)).trans (fr_put _ _ _ _) (fun _ _ h => h)
    have Hrz : Hid (RSc ((((x9.setCell ⟨q2, 0, none⟩ (.int .u32 (U : Int))).setCell ⟨q2, 1, none⟩ (.int .u32 (V : Int))).setCell ⟨q2, 2, none⟩ (.int .i64 (FT : Int))).setCell ⟨q2, 3, none⟩ (.int .i64 (-1))) p s (scByte s 10 c7)) := hfz.kept Hrx9.out (fun h => Hap.out.1 h.symm)
    have Hfz : Hid (Fr w ((((x9.setCell ⟨q2, 0, none⟩ (.int .u32 (U : Int))).setCell ⟨q2, 1, none⟩ (.int .u32 (V : Int))).setCell ⟨q2, 2, none⟩ (.int .i64 (FT : Int))).setCell ⟨q2, 3, none⟩ (.int .i64 (-1))) (fun k => k = p)) := Hfx9.out.newer hfz (fun k hk => by rw [hk]; exact Hap.out.2.2.2.1)
    clear hfz
    go_wp2
    refine bodyPost_ret (results_cell1 rfl rfl (run_loadVar_row _ _ 82 _ _ (0, 0) _ Hrow.out Tryz.underlying82 rfl lfSize4)) rfl ?_
    exact ⟨rfl, Hrz.out, Hfz.out⟩
  · -- an end
    have hTo : lfTo s c6 = scNum s maxT c6 := if_neg hcase
    have hTv : lfToV s c6 = (scNumVal s maxT c6 : Int) := if_neg hcase
    have kb := refNumT p s c6 x7 Hrx7.out Ok6.out hs
    have htl : scNumVal s maxT c6 ≤ 4611686018427387903 := scNumVal_le s maxT c6
    have hc7 : c7 = scNum s maxT c6 := Hc7.out.trans hTo
    obtain ⟨T, hT⟩ : ∃ x, x = scNumVal s maxT c6 := ⟨_, rfl⟩
    rw [← hT] at hTv
    obtain rfl : tv = (T : Int) := Htv.out.trans hTv
    have Ok7 : Hid (ScOk s c7) := by show ScOk _ _; rw [hc7]; exact scNum_ok Ok6.out _
    rw [← hc7, ← hT] at kb
    rw [← hT] at htl
    have wT : IntKind.i64.wrap (T : Int) = (T : Int) := IntWalk.i64_in _ (by omega)
    have hno : NO = false ∨ (NO = true ∧ ((NB : Int) == 45) = false) := by
      cases NO with
      | false => exact .inl rfl
      | true => exact .inr ⟨rfl, by rw [beq_eq_false_iff_ne]; intro e; exact hcase (by rw [← Hn.out, show NB = 45 by omega])⟩
    clear hcase hTo hTv hc7 hT Hn htl Hc7 Htv
    rcases hno with rfl | ⟨rfl, hnb⟩
    all_goals
      skip
      go_wp2_with fail
      refine kb.mono ?_
      rintro r x7b ⟨rfl, r0, f0⟩
      have Hrx7b : Hid (RSc x7b p s c7) := r0
      have Hbx7b : Hid (x7b.heap[q2]? = some (.cells #[.int .u32 0, .int .u32 0, .int .i64 0, .int .i64 0] 82 (0, 0)) ∧ x7b.heap[q3]? = some (.cells #[.int .u32 (U : Int), .int .u32 (V : Int), .int .i64 (FT : Int), .int .i64 0] 82 (0, 0))) := ⟨f0.kept Hbx7.out.1 Hap.out.1, f0.kept Hbx7.out.2 Hap.out.2.1⟩
      have Hfx7b : Hid (Fr w x7b (fun k => k = p)) := Hfx7.out.trans f0 (fun _ _ h => h)
      clear kb r0 f0
      obtain ⟨-, -, -, z3⟩ := four_cells Hbx7b.out.2
      have y3 := four_free (k := 3) Hbx7b.out.2
      go_upto_region 10 with fail
      obtain ⟨x8, hx8⟩ : ∃ x, x = x7b.setCell ⟨q3, 3, none⟩ (.int .i64 (T : Int)) := ⟨_, rfl⟩
      have f0 : Fr x7b x8 (fun k => k = q3) := by rw [hx8]; exact fr_put _ _ _ _
      have Hbx8 : Hid (x8.heap[q2]? = some (.cells #[.int .u32 0, .int .u32 0, .int .i64 0, .int .i64 0] 82 (0, 0)) ∧ x8.heap[q3]? = some (.cells #[.int .u32 (U : Int), .int .u32 (V : Int), .int .i64 (FT : Int), .int .i64 (T : Int)] 82 (0, 0))) := ⟨f0.kept Hbx7b.out.1 (fun h => Hap.out.2.2.1 h), by rw [hx8]; exact four_setD Hbx7b.out.2⟩
      have Hrx8 : Hid (RSc x8 p s c7) := f0.kept Hrx7b.out (fun h => Hap.out.2.1 h.symm)
      have Hfx8 : Hid (Fr w x8 (fun k => k = p)) := Hfx7b.out.newer f0 (fun k hk => by rw [hk]; exact Hap.out.2.2.2.2)
      rw [← hx8]
      clear f0 hx8 z3 y3
      have kk := refB 10 10 rfl p s c7 x8 Hrx8.out Ok7.out hs
      go_wp2_with fail
      refine kk.mono ?_
      rintro r x9 ⟨rfl, r0, f0⟩
      have Hrx9 : Hid (RSc x9 p s (scByte s 10 c7)) := r0
      have Hbx9 : Hid (x9.heap[q2]? = some (.cells #[.int .u32 0, .int .u32 0, .int .i64 0, .int .i64 0] 82 (0, 0)) ∧ x9.heap[q3]? = some (.cells #[.int .u32 (U : Int), .int .u32 (V : Int), .int .i64 (FT : Int), .int .i64 (T : Int)] 82 (0, 0))) := ⟨f0.kept Hbx8.out.1 Hap.out.1, f0.kept Hbx8.out.2 Hap.out.2.1⟩
      have Hfx9 : Hid (Fr w x9 (fun k => k = p)) := Hfx8.out.trans f0 (fun _ _ h => h)
      clear kk r0 f0
      obtain ⟨z0, z1, z2, z3⟩ := four_cells Hbx9.out.2
      obtain ⟨u0, u1, u2, u3⟩ := four_cells Hbx9.out.1
      have y0 := four_free (k := 0) Hbx9.out.1
      have y1 := four_free (k := 1) Hbx9.out.1
      have y2 := four_free (k := 2) Hbx9.out.1
      have y3 := four_free (k := 3) Hbx9.out.1
      have Hrow : Hid _ := four_setD (four_setC (four_setB (four_setA Hbx9.out.1 (u := .int .u32 (U : Int))) (u := .int .u32 (V : Int))) (u := .int .i64 (FT : Int))) (u := .int .i64 (T : Int))
      have hfz : Fr x9 ((((x9.setCell ⟨q2, 0, none⟩ (.int .u32 (U : Int))).setCell ⟨q2, 1, none⟩ (.int .u32 (V : Int))).setCell ⟨q2, 2, none⟩ (.int .i64 (FT : Int))).setCell ⟨q2, 3, none⟩ (.int .i64 (T : Int))) (fun k => k = q2) := (((fr_put _ _ _ _).trans (fr_put _ _ _ _) (fun _ _ h => h)).trans (fr_put _ _ _ _) (fun _ _ h => h)).trans (fr_put _ _ _ _) (fun _ _ h => h)
      have Hrz : Hid (RSc ((((x9.setCell ⟨q2, 0, none⟩ (.int .u32 (U : Int))).setCell ⟨q2, 1, none⟩ (.int .u32 (V : Int))).setCell ⟨q2, 2, none⟩ (.int .i64 (FT : Int))).setCell ⟨q2, 3, none⟩ (.int .i64 (T : Int))) p s (scByte s 10 c7)) := hfz.kept Hrx9.out (fun h => Hap.out.1 h.symm)
      have Hfz : Hid (Fr w ((((x9.setCell ⟨q2, 0, none⟩ (.int .u32 (U : Int))).setCell ⟨q2, 1, none⟩ (.int .u32 (V : Int))).setCell ⟨q2, 2, none⟩ (.int .i64 (FT : Int))).setCell ⟨q2, 3, none⟩ (.int .i64 (T : Int))) (fun k => k = p)) := Hfx9.out.newer hfz (fun k hk => by rw [hk]; exact Hap.out.2.2.2.1)
      clear hfz
      go_wp2
      refine bodyPost_ret (results_cell1 rfl rfl (run_loadVar_row _ _ 82 _ _ (0, 0) _ Hrow.out Tryz.underlying82 rfl lfSize4)) rfl ?_
      exact ⟨rfl, Hrz.out, Hfz.out⟩

end Go.Proofs.YtnffjafddbbjaaaGreatDoor
