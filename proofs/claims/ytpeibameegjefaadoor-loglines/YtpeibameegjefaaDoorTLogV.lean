/-
  The contract of the reference scanner's event (a line of a log).
-/
import Derived.Test.YtpeibameegjefaaDoorTLogE
import Derived.Test.YtpeibameegjefaaDoorJ4
namespace Go.Proofs.YtpeibameegjefaaDoor
open Go.RowKit

theorem evSize4 : (Tryd.prog.info? 61).map (·.size) = some 4 := by kernel_rfl
set_option maxRecDepth 4000 in
set_option maxHeartbeats 3200000 in
theorem refEvent_any (p : Nat) (s : ByteArray) (c : Sc) (w : World) (h : RSc w p s c) (hok : ScOk s c) (hs : s.size ≤ 1000000000) : Calls Tryd.prog 45 #[.pointer (some ⟨p, 0, none⟩)] w fun r w' =>
    r = .returned (evV (evVal s c)) ∧ RSc w' p s (evEnd s c) ∧ Fr w w' (fun k => k = p) := by
  obtain ⟨T, hT⟩ : ∃ x, x = scNumVal s maxT c := ⟨_, rfl⟩
  obtain ⟨c1, hc1⟩ : ∃ x, x = scNum s maxT c := ⟨_, rfl⟩
  have Ok1 : Hid (ScOk s c1) := by show ScOk _ _; rw [hc1]; exact scNum_ok hok _
  have HT : Hid (T ≤ 4611686018427387903) := by show _ ≤ _; rw [hT]; exact scNumVal_le s maxT c
  have k1 := fun z hz => refNumT p s c z hz hok hs
  rw [← hT, ← hc1] at k1
  obtain ⟨c2, hc2⟩ : ∃ x, x = scByte s 32 c1 := ⟨_, rfl⟩
  have Ok2 : Hid (ScOk s c2) := by show ScOk _ _; rw [hc2]; exact scByte_ok Ok1.out _
  have k2 := fun z hz => refB 32 32 rfl p s c1 z hz Ok1.out hs
  obtain ⟨O2, hO2⟩ : ∃ x, x = scByteOk s 32 c1 := ⟨_, rfl⟩
  rw [← hc2, ← hO2] at k2
  have He2 : Hid (ev2 s c = c2) := by show _ = _; rw [hc2, hc1]; rfl
  obtain ⟨⟨NB, NO⟩, hn⟩ : ∃ x, x = scNext s c2 := ⟨_, rfl⟩
  have kn := fun z hz => refNext_any p s c2 z hz
  rw [← hn] at kn
  dsimp only at kn
  have Hn : Hid _ := hn
  have H : Hid (RSc w p s c) := h
  have HTe : Hid _ := hT
  obtain ⟨X, hX⟩ : ∃ x, x = evVal s c := ⟨_, rfl⟩
  obtain ⟨c8, hc8⟩ : ∃ x, x = evEnd s c := ⟨_, rfl⟩
  rw [← hX, ← hc8]
  have HX : Hid _ := hX
  have Hc8 : Hid _ := hc8
  clear hT hc1 hc2 hO2 hn h hX hc8
  -- behind the sign
  have rest : ∀ (AD : Bool) (c3 : Sc), evSg s c2 = c3 → evPlus s c2 = AD → ScOk s c3 ∧ ∃ (c4 : Sc) (U V : Nat) (c7 : Sc) (O4 O8 : Bool), ScOk s c4 ∧ ScOk s c7 ∧ X = ((T : Int), (U, V), AD) ∧ U ≤ 4294967295 ∧ V ≤ 4294967295 ∧
      (∀ z, RSc z p s c3 → Calls Tryd.prog 42 #[.pointer (some ⟨p, 0, none⟩), .int .u8 32] z fun r w' => r = .returned (.bool O4) ∧ RSc w' p s c4 ∧ Fr z w' (fun k => k = p)) ∧
      (∀ z, RSc z p s c4 → Calls Tryd.prog 65 #[.pointer (some ⟨p, 0, none⟩)] z fun r w' => r = .returned (.agg #[.int .u32 (U : Int), .int .u32 (V : Int)]) ∧ RSc w' p s c7 ∧ Fr z w' (fun k => k = p)) ∧
      (∀ z, RSc z p s c7 → Calls Tryd.prog 42 #[.pointer (some ⟨p, 0, none⟩), .int .u8 10] z fun r w' => r = .returned (.bool O8) ∧ RSc w' p s c8 ∧ Fr z w' (fun k => k = p)) := by
    intro AD c3 h3 hAD
    have ok3 : ScOk s c3 := by
      rw [← h3]
      unfold evSg
      split
      · exact scByte_ok Ok2.out _
      · exact scByte_ok Ok2.out _
    have e4 : ev4 s c = scByte s 32 c3 := by unfold ev4; rw [He2.out, h3]
    have ok4 : ScOk s (scByte s 32 c3) := scByte_ok ok3 _
    have ok5 : ScOk s (scByte s 32 (scNum s maxV (scByte s 32 c3))) := scByte_ok (scNum_ok ok4 _) _
    have e6 : ev6 s c = scByte s 32 (scNum s maxV (scByte s 32 c3)) := by unfold ev6; rw [e4]
    refine ⟨ok3, scByte s 32 c3, scNumVal s maxV (scByte s 32 c3), scNumVal s maxV (scByte s 32 (scNum s maxV (scByte s 32 c3))), scNum s maxV (scByte s 32 (scNum s maxV (scByte s 32 c3))), scByteOk s 32 c3, scByteOk s 10 (scNum s maxV (scByte s 32 (scNum s maxV (scByte s 32 c3)))), ok4, scNum_ok ok5 _, ?_, scNumVal_le _ _ _, scNumVal_le _ _ _, fun z hz => refB 32 32 rfl p s c3 z hz ok3 hs, fun z hz => ?_, fun z hz => ?_⟩
    · rw [HX.out]
      unfold evVal
      rw [e4, e6, He2.out, hAD, ← HTe.out]
    · have := refEdge_any p s (scByte s 32 c3) z hz ok4 hs
      unfold edgeV at this
      exact this
    · have h8 := refB 10 10 rfl p s _ z hz (scNum_ok ok5 maxV) hs
      have e8 : evEnd s c = scByte s 10 (scNum s maxV (scByte s 32 (scNum s maxV (scByte s 32 c3)))) := by unfold evEnd; rw [e6]
      rw [Hc8.out, e8]
      exact h8
  have Hrest : Hid _ := rest
  clear rest HX Hc8 HTe He2
  go_enter Tryd.func45, Tryd.ntmps45
  go_upto_region 2 with fail
  obtain ⟨q2, hq2⟩ : ∃ q, q = w.heap.size := ⟨_, rfl⟩
  obtain ⟨q3, hq3⟩ : ∃ q, q = q2 + 1 := ⟨_, rfl⟩
  obtain ⟨w1, hw1⟩ : ∃ x, x = (w.alloc (.cells #[.int .i64 0, .int .u32 0, .int .u32 0, .bool false] 61)).alloc (.cells #[.int .i64 0, .int .u32 0, .int .u32 0, .bool false] 61) := ⟨_, rfl⟩
  rw [← hw1, ← hq2, ← hq3]
  have Hq2 : Hid (w1.heap[q2]? = some (.cells #[.int .i64 0, .int .u32 0, .int .u32 0, .bool false] 61 (0, 0))) := by show _ = _; rw [hw1, hq2]; exact blk_alloc _ (heap_alloc_new _ _)
  have Hq3 : Hid (w1.heap[q3]? = some (.cells #[.int .i64 0, .int .u32 0, .int .u32 0, .bool false] 61 (0, 0))) := by
    show _ = _
    have h0 := heap_alloc_new (w.alloc (.cells #[.int .i64 0, .int .u32 0, .int .u32 0, .bool false] 61)) (.cells #[.int .i64 0, .int .u32 0, .int .u32 0, .bool false] 61)
    rw [hw1, hq3, hq2]
    simpa using h0
  have Hw1 : Hid (Fr w w1 (fun k => k = p)) := by show Fr _ _ _; rw [hw1]; exact ((Fr.refl _ _).alloc _).alloc _
  have Hap : Hid (q2 ≠ p ∧ q3 ≠ p ∧ q2 ≠ q3 ∧ w.heap.size ≤ q2 ∧ w.heap.size ≤ q3) := ⟨fun e => by have := lt_of_block H.out; omega, fun e => by have := lt_of_block H.out; omega, by omega, by omega, by omega⟩
  have Hr1 : Hid (RSc w1 p s c) := by show RSc _ _ _ _; rw [hw1]; exact blk_alloc _ (blk_alloc _ H.out)
  clear hq2 hq3 hw1
  have k1' := k1 w1 Hr1.out
  clear k1
  have wT : IntKind.i64.wrap (T : Int) = (T : Int) := IntWalk.i64_in _ (by have := HT.out; omega)
  go_wp2_with fail
  refine k1'.mono ?_
  rintro r w2 ⟨rfl, r2, f2⟩
  have Hr2 : Hid (RSc w2 p s c1) := r2
  have Hb2 : Hid (w2.heap[q2]? = some (.cells #[.int .i64 0, .int .u32 0, .int .u32 0, .bool false] 61 (0, 0)) ∧ w2.heap[q3]? = some (.cells #[.int .i64 0, .int .u32 0, .int .u32 0, .bool false] 61 (0, 0))) := ⟨f2.kept Hq2.out Hap.out.1, f2.kept Hq3.out Hap.out.2.1⟩
  have Hf2 : Hid (Fr w w2 (fun k => k = p)) := Hw1.out.trans f2 (fun _ _ h => h)
  clear k1' r2 f2 Hq2 Hq3
  obtain ⟨z0, -, -, -⟩ := four_cells Hb2.out.2
  have y0 := four_free (k := 0) Hb2.out.2
  obtain ⟨w3, hw3⟩ : ∃ x, x = w2.setCell ⟨q3, 0, none⟩ (.int .i64 (T : Int)) := ⟨_, rfl⟩
  have f3 : Fr w2 w3 (fun k => k = q3) := by rw [hw3]; exact fr_put _ _ _ _
  have Hb3 : Hid (w3.heap[q2]? = some (.cells #[.int .i64 0, .int .u32 0, .int .u32 0, .bool false] 61 (0, 0)) ∧ w3.heap[q3]? = some (.cells #[.int .i64 (T : Int), .int .u32 0, .int .u32 0, .bool false] 61 (0, 0))) := ⟨f3.kept Hb2.out.1 (fun h => Hap.out.2.2.1 h), by rw [hw3]; exact four_setA Hb2.out.2⟩
  have Hr3 : Hid (RSc w3 p s c1) := f3.kept Hr2.out (fun h => Hap.out.2.1 h.symm)
  have Hf3 : Hid (Fr w w3 (fun k => k = p)) := Hf2.out.newer f3 (fun k hk => by rw [hk]; exact Hap.out.2.2.2.2)
  have k2' := k2 w3 Hr3.out
  rw [hw3] at k2'
  clear k2 f3
  go_wp2_with fail
  refine k2'.mono ?_
  rw [← hw3]
  rintro r w4 ⟨rfl, r4, f4⟩
  have Hr4 : Hid (RSc w4 p s c2) := r4
  have Hb4 : Hid (w4.heap[q2]? = some (.cells #[.int .i64 0, .int .u32 0, .int .u32 0, .bool false] 61 (0, 0)) ∧ w4.heap[q3]? = some (.cells #[.int .i64 (T : Int), .int .u32 0, .int .u32 0, .bool false] 61 (0, 0))) := ⟨f4.kept Hb3.out.1 Hap.out.1, f4.kept Hb3.out.2 Hap.out.2.1⟩
  have Hf4 : Hid (Fr w w4 (fun k => k = p)) := Hf3.out.trans f4 (fun _ _ h => h)
  have kn' := kn w4 Hr4.out
  clear k2' hw3 r4 f4 z0 y0 kn wT
  go_wp2_with fail
  refine kn'.mono ?_
  rintro r w5 ⟨rfl, f5⟩
  have Hr5 : Hid (RSc w5 p s c2) := f5.kept Hr4.out (fun h => h)
  have Hb5 : Hid (w5.heap[q2]? = some (.cells #[.int .i64 0, .int .u32 0, .int .u32 0, .bool false] 61 (0, 0)) ∧ w5.heap[q3]? = some (.cells #[.int .i64 (T : Int), .int .u32 0, .int .u32 0, .bool false] 61 (0, 0))) := ⟨f5.kept Hb4.out.1 (fun h => h), f5.kept Hb4.out.2 (fun h => h)⟩
  have Hf5 : Hid (Fr w w5 (fun k => k = p)) := Hf4.out.none f5
  clear kn' f5
  by_cases hcase : (NB, NO) = (45, true)
  · -- a minus
    simp only [Prod.mk.injEq] at hcase
    obtain ⟨rfl, rfl⟩ := hcase
    have hs3 : evSg s c2 = scByte s 45 c2 := if_pos Hn.out.symm
    have hp3 : evPlus s c2 = false := if_pos Hn.out.symm
    obtain ⟨c3, hc3⟩ : ∃ x, x = scByte s 45 c2 := ⟨_, rfl⟩
    rw [← hc3] at hs3
    have kb := refB 45 45 rfl p s c2 w5 Hr5.out Ok2.out hs
    rw [← hc3] at kb
    obtain ⟨O3, hO3⟩ : ∃ x, x = scByteOk s 45 c2 := ⟨_, rfl⟩
    rw [← hO3] at kb
    obtain ⟨ok3, c4, U, V, c7, O4, O8, ok4, ok7, hX, hU, hV, g4, g5, g8⟩ := Hrest.out false c3 hs3 hp3
    subst hX
    have HUV : Hid (U ≤ 4294967295 ∧ V ≤ 4294967295) := ⟨hU, hV⟩
    have e45 : (((45 : Nat) : Int) == 45) = true := rfl
    clear Hrest Hn hs3 hp3 hc3 hO3 hU hV ok3 ok4 ok7
    go_wp2_with fail
    refine kb.mono ?_
    rintro r w6 ⟨rfl, r6, f6⟩
    have Hr6 : Hid (RSc w6 p s c3) := r6
    have Hb6 : Hid (w6.heap[q2]? = some (.cells #[.int .i64 0, .int .u32 0, .int .u32 0, .bool false] 61 (0, 0)) ∧ w6.heap[q3]? = some (.cells #[.int .i64 (T : Int), .int .u32 0, .int .u32 0, .bool false] 61 (0, 0))) := ⟨f6.kept Hb5.out.1 Hap.out.1, f6.kept Hb5.out.2 Hap.out.2.1⟩
    have Hf6 : Hid (Fr w w6 (fun k => k = p)) := Hf5.out.trans f6 (fun _ _ h => h)
    clear kb r6 f6 e45
    have g4' := g4 w6 Hr6.out
    go_wp2_with fail
    refine g4'.mono ?_
    rintro r w7 ⟨rfl, r7, f7⟩
    have Hr7 : Hid (RSc w7 p s c4) := r7
    have Hb7 : Hid (w7.heap[q2]? = some (.cells #[.int .i64 0, .int .u32 0, .int .u32 0, .bool false] 61 (0, 0)) ∧ w7.heap[q3]? = some (.cells #[.int .i64 (T : Int), .int .u32 0, .int .u32 0, .bool false] 61 (0, 0))) := ⟨f7.kept Hb6.out.1 Hap.out.1, f7.kept Hb6.out.2 Hap.out.2.1⟩
    have Hf7 : Hid (Fr w w7 (fun k => k = p)) := Hf6.out.trans f7 (fun _ _ h => h)
    clear g4 g4' r7 f7
    have g5' := g5 w7 Hr7.out
    go_wp2_with fail
    refine g5'.mono ?_
    rintro r w8 ⟨rfl, r8, f8⟩
    have Hr8 : Hid (RSc w8 p s c7) := r8
    have Hb8 : Hid (w8.heap[q2]? = some (.cells #[.int .i64 0, .int .u32 0, .int .u32 0, .bool false] 61 (0, 0)) ∧ w8.heap[q3]? = some (.cells #[.int .i64 (T : Int), .int .u32 0, .int .u32 0, .bool false] 61 (0, 0))) := ⟨f8.kept Hb7.out.1 Hap.out.1, f8.kept Hb7.out.2 Hap.out.2.1⟩
    have Hf8 : Hid (Fr w w8 (fun k => k = p)) := Hf7.out.trans f8 (fun _ _ h => h)
    clear g5 g5' r8 f8
    obtain ⟨-, z1, z2, -⟩ := four_cells Hb8.out.2
    have y1 := four_free (k := 1) Hb8.out.2
    have y2 := four_free (k := 2) Hb8.out.2
    go_upto_region 10 with fail
    obtain ⟨w9, hw9⟩ : ∃ x, x = (w8.setCell ⟨q3, 1, none⟩ (.int .u32 (U : Int))).setCell ⟨q3, 2, none⟩ (.int .u32 (V : Int)) := ⟨_, rfl⟩
    have f9 : Fr w8 w9 (fun k => k = q3) := by rw [hw9]; exact (fr_put _ _ _ _).trans (fr_put _ _ _ _) (fun _ _ h => h)
    have Hb9 : Hid (w9.heap[q2]? = some (.cells #[.int .i64 0, .int .u32 0, .int .u32 0, .bool false] 61 (0, 0)) ∧ w9.heap[q3]? = some (.cells #[.int .i64 (T : Int), .int .u32 (U : Int), .int .u32 (V : Int), .bool false] 61 (0, 0))) := ⟨f9.kept Hb8.out.1 (fun h => Hap.out.2.2.1 h), by rw [hw9]; exact four_setC (four_setB Hb8.out.2)⟩
    have Hr9 : Hid (RSc w9 p s c7) := f9.kept Hr8.out (fun h => Hap.out.2.1 h.symm)
    have Hf9 : Hid (Fr w w9 (fun k => k = p)) := Hf8.out.newer f9 (fun k hk => by rw [hk]; exact Hap.out.2.2.2.2)
    rw [← hw9]
    clear f9 hw9 z1 z2 y1 y2
    have g8' := g8 w9 Hr9.out
    go_wp2_with fail
    refine g8'.mono ?_
    rintro r w10 ⟨rfl, r10, f10⟩
    have Hr10 : Hid (RSc w10 p s c8) := r10
    have Hb10 : Hid (w10.heap[q2]? = some (.cells #[.int .i64 0, .int .u32 0, .int .u32 0, .bool false] 61 (0, 0)) ∧ w10.heap[q3]? = some (.cells #[.int .i64 (T : Int), .int .u32 (U : Int), .int .u32 (V : Int), .bool false] 61 (0, 0))) := ⟨f10.kept Hb9.out.1 Hap.out.1, f10.kept Hb9.out.2 Hap.out.2.1⟩
    have Hf10 : Hid (Fr w w10 (fun k => k = p)) := Hf9.out.trans f10 (fun _ _ h => h)
    clear g8 g8' r10 f10
    obtain ⟨z0, z1, z2, z3⟩ := four_cells Hb10.out.2
    obtain ⟨x0, x1, x2, x3⟩ := four_cells Hb10.out.1
    have y0 := four_free (k := 0) Hb10.out.1
    have y1 := four_free (k := 1) Hb10.out.1
    have y2 := four_free (k := 2) Hb10.out.1
    have y3 := four_free (k := 3) Hb10.out.1
    have Hrow : Hid _ := four_setD (four_setC (four_setB (four_setA Hb10.out.1 (u := .int .i64 (T : Int))) (u := .int .u32 (U : Int))) (u := .int .u32 (V : Int))) (u := .bool false)
    have hfz : Fr w10 ((((w10.setCell ⟨q2, 0, none⟩ (.int .i64 (T : Int))).setCell ⟨q2, 1, none⟩ (.int .u32 (U : Int))).setCell ⟨q2, 2, none⟩ (.int .u32 (V : Int))).setCell ⟨q2, 3, none⟩ (.bool false)) (fun k => k = q2) := (((fr_put _ _ _ _).trans (fr_put _ _ _ _) (fun _ _ h => h)).trans (fr_put _ _ _ _) (fun _ _ h => h)).trans (fr_put _ _ _ _) (fun _ _ h => h)
    have Hrz : Hid (RSc ((((w10.setCell ⟨q2, 0, none⟩ (.int .i64 (T : Int))).setCell ⟨q2, 1, none⟩ (.int .u32 (U : Int))).setCell ⟨q2, 2, none⟩ (.int .u32 (V : Int))).setCell ⟨q2, 3, none⟩ (.bool false)) p s c8) := hfz.kept Hr10.out (fun h => Hap.out.1 h.symm)
    have Hfz : Hid (Fr w ((((w10.setCell ⟨q2, 0, none⟩ (.int .i64 (T : Int))).setCell ⟨q2, 1, none⟩ (.int .u32 (U : Int))).setCell ⟨q2, 2, none⟩ (.int .u32 (V : Int))).setCell ⟨q2, 3, none⟩ (.bool false)) (fun k => k = p)) := Hf10.out.newer hfz (fun k hk => by rw [hk]; exact Hap.out.2.2.2.1)
    clear hfz
    go_wp2
    refine bodyPost_ret (results_cell1 rfl rfl (run_loadVar_row _ _ 61 _ _ (0, 0) _ Hrow.out Tryd.underlying61 rfl evSize4)) rfl ?_
    exact ⟨rfl, Hrz.out, Hfz.out⟩
  · -- another
    have hs3 : evSg s c2 = scByte s 43 c2 := if_neg (by rw [← Hn.out]; exact hcase)
    have hp3 : evPlus s c2 = scByteOk s 43 c2 := if_neg (by rw [← Hn.out]; exact hcase)
    obtain ⟨c3, hc3⟩ : ∃ x, x = scByte s 43 c2 := ⟨_, rfl⟩
    obtain ⟨AD, hAD⟩ : ∃ x, x = scByteOk s 43 c2 := ⟨_, rfl⟩
    rw [← hc3] at hs3
    rw [← hAD] at hp3
    have kb := refB 43 43 rfl p s c2 w5 Hr5.out Ok2.out hs
    rw [← hc3, ← hAD] at kb
    obtain ⟨ok3, c4, U, V, c7, O4, O8, ok4, ok7, hX, hU, hV, g4, g5, g8⟩ := Hrest.out AD c3 hs3 hp3
    subst hX
    have HUV : Hid (U ≤ 4294967295 ∧ V ≤ 4294967295) := ⟨hU, hV⟩
    obtain ⟨z0, z1, z2, z3⟩ := four_cells Hb5.out.2
    clear Hrest Hn hs3 hp3 hc3 hAD hU hV ok3 ok4 ok7
    have hno : NO = false ∨ (NO = true ∧ ((NB : Int) == 45) = false) := by
      cases NO with
      | false => exact .inl rfl
      | true => exact .inr ⟨rfl, by rw [beq_eq_false_iff_ne]; intro e; exact hcase (by rw [show NB = 45 by omega])⟩
    clear hcase
    rcases hno with rfl | ⟨rfl, hnb⟩
    all_goals
      go_wp2_with fail
      refine kb.mono ?_
      rintro r w5b ⟨rfl, r6, f6⟩
      have Hr5b : Hid (RSc w5b p s c3) := r6
      have Hb5b : Hid (w5b.heap[q2]? = some (.cells #[.int .i64 0, .int .u32 0, .int .u32 0, .bool false] 61 (0, 0)) ∧ w5b.heap[q3]? = some (.cells #[.int .i64 (T : Int), .int .u32 0, .int .u32 0, .bool false] 61 (0, 0))) := ⟨f6.kept Hb5.out.1 Hap.out.1, f6.kept Hb5.out.2 Hap.out.2.1⟩
      have Hf5b : Hid (Fr w w5b (fun k => k = p)) := Hf5.out.trans f6 (fun _ _ h => h)
      clear kb r6 f6 z0 z1 z2 z3
      obtain ⟨-, -, -, z3⟩ := four_cells Hb5b.out.2
      have y3 := four_free (k := 3) Hb5b.out.2
      go_upto_region 8 with fail
      obtain ⟨w6, hw6⟩ : ∃ x, x = w5b.setCell ⟨q3, 3, none⟩ (.bool AD) := ⟨_, rfl⟩
      have f6 : Fr w5b w6 (fun k => k = q3) := by rw [hw6]; exact fr_put _ _ _ _
      have Hb6 : Hid (w6.heap[q2]? = some (.cells #[.int .i64 0, .int .u32 0, .int .u32 0, .bool false] 61 (0, 0)) ∧ w6.heap[q3]? = some (.cells #[.int .i64 (T : Int), .int .u32 0, .int .u32 0, .bool AD] 61 (0, 0))) := ⟨f6.kept Hb5b.out.1 (fun h => Hap.out.2.2.1 h), by rw [hw6]; exact four_setD Hb5b.out.2⟩
      have Hr6 : Hid (RSc w6 p s c3) := f6.kept Hr5b.out (fun h => Hap.out.2.1 h.symm)
      have Hf6 : Hid (Fr w w6 (fun k => k = p)) := Hf5b.out.newer f6 (fun k hk => by rw [hk]; exact Hap.out.2.2.2.2)
      rw [← hw6]
      clear f6 hw6 z3 y3
      have g4' := g4 w6 Hr6.out
      go_wp2_with fail
      refine g4'.mono ?_
      rintro r w7 ⟨rfl, r7, f7⟩
      have Hr7 : Hid (RSc w7 p s c4) := r7
      have Hb7 : Hid (w7.heap[q2]? = some (.cells #[.int .i64 0, .int .u32 0, .int .u32 0, .bool false] 61 (0, 0)) ∧ w7.heap[q3]? = some (.cells #[.int .i64 (T : Int), .int .u32 0, .int .u32 0, .bool AD] 61 (0, 0))) := ⟨f7.kept Hb6.out.1 Hap.out.1, f7.kept Hb6.out.2 Hap.out.2.1⟩
      have Hf7 : Hid (Fr w w7 (fun k => k = p)) := Hf6.out.trans f7 (fun _ _ h => h)
      clear g4 g4' r7 f7
      have g5' := g5 w7 Hr7.out
      go_wp2_with fail
      refine g5'.mono ?_
      rintro r w8 ⟨rfl, r8, f8⟩
      have Hr8 : Hid (RSc w8 p s c7) := r8
      have Hb8 : Hid (w8.heap[q2]? = some (.cells #[.int .i64 0, .int .u32 0, .int .u32 0, .bool false] 61 (0, 0)) ∧ w8.heap[q3]? = some (.cells #[.int .i64 (T : Int), .int .u32 0, .int .u32 0, .bool AD] 61 (0, 0))) := ⟨f8.kept Hb7.out.1 Hap.out.1, f8.kept Hb7.out.2 Hap.out.2.1⟩
      have Hf8 : Hid (Fr w w8 (fun k => k = p)) := Hf7.out.trans f8 (fun _ _ h => h)
      clear g5 g5' r8 f8
      obtain ⟨-, z1, z2, -⟩ := four_cells Hb8.out.2
      have y1 := four_free (k := 1) Hb8.out.2
      have y2 := four_free (k := 2) Hb8.out.2
      go_upto_region 10 with fail
      obtain ⟨w9, hw9⟩ : ∃ x, x = (w8.setCell ⟨q3, 1, none⟩ (.int .u32 (U : Int))).setCell ⟨q3, 2, none⟩ (.int .u32 (V : Int)) := ⟨_, rfl⟩
      have f9 : Fr w8 w9 (fun k => k = q3) := by rw [hw9]; exact (fr_put _ _ _ _).trans (fr_put _ _ _ _) (fun _ _ h => h)
      have Hb9 : Hid (w9.heap[q2]? = some (.cells #[.int .i64 0, .int .u32 0, .int .u32 0, .bool false] 61 (0, 0)) ∧ w9.heap[q3]? = some (.cells #[.int .i64 (T : Int), .int .u32 (U : Int), .int .u32 (V : Int), .bool AD] 61 (0, 0))) := ⟨f9.kept Hb8.out.1 (fun h => Hap.out.2.2.1 h), by rw [hw9]; exact four_setC (four_setB Hb8.out.2)⟩
      have Hr9 : Hid (RSc w9 p s c7) := f9.kept Hr8.out (fun h => Hap.out.2.1 h.symm)
      have Hf9 : Hid (Fr w w9 (fun k => k = p)) := Hf8.out.newer f9 (fun k hk => by rw [hk]; exact Hap.out.2.2.2.2)
      rw [← hw9]
      clear f9 hw9 z1 z2 y1 y2
      have g8' := g8 w9 Hr9.out
      go_wp2_with fail
      refine g8'.mono ?_
      rintro r w10 ⟨rfl, r10, f10⟩
      have Hr10 : Hid (RSc w10 p s c8) := r10
      have Hb10 : Hid (w10.heap[q2]? = some (.cells #[.int .i64 0, .int .u32 0, .int .u32 0, .bool false] 61 (0, 0)) ∧ w10.heap[q3]? = some (.cells #[.int .i64 (T : Int), .int .u32 (U : Int), .int .u32 (V : Int), .bool AD] 61 (0, 0))) := ⟨f10.kept Hb9.out.1 Hap.out.1, f10.kept Hb9.out.2 Hap.out.2.1⟩
      have Hf10 : Hid (Fr w w10 (fun k => k = p)) := Hf9.out.trans f10 (fun _ _ h => h)
      clear g8 g8' r10 f10
      obtain ⟨z0, z1, z2, z3⟩ := four_cells Hb10.out.2
      obtain ⟨x0, x1, x2, x3⟩ := four_cells Hb10.out.1
      have y0 := four_free (k := 0) Hb10.out.1
      have y1 := four_free (k := 1) Hb10.out.1
      have y2 := four_free (k := 2) Hb10.out.1
      have y3 := four_free (k := 3) Hb10.out.1
      have Hrow : Hid _ := four_setD (four_setC (four_setB (four_setA Hb10.out.1 (u := .int .i64 (T : Int))) (u := .int .u32 (U : Int))) (u := .int .u32 (V : Int))) (u := .bool AD)
      have hfz : Fr w10 ((((w10.setCell ⟨q2, 0, none⟩ (.int .i64 (T : Int))).setCell ⟨q2, 1, none⟩ (.int .u32 (U : Int))).setCell ⟨q2, 2, none⟩ (.int .u32 (V : Int))).setCell ⟨q2, 3, none⟩ (.bool AD)) (fun k => k = q2) := (((fr_put _ _ _ _).trans (fr_put _ _ _ _) (fun _ _ h => h)).trans (fr_put _ _ _ _) (fun _ _ h => h)).trans (fr_put _ _ _ _) (fun _ _ h => h)
      have Hrz : Hid (RSc ((((w10.setCell ⟨q2, 0, none⟩ (.int .i64 (T : Int))).setCell ⟨q2, 1, none⟩ (.int .u32 (U : Int))).setCell ⟨q2, 2, none⟩ (.int .u32 (V : Int))).setCell ⟨q2, 3, none⟩ (.bool AD)) p s c8) := hfz.kept Hr10.out (fun h => Hap.out.1 h.symm)
      have Hfz : Hid (Fr w ((((w10.setCell ⟨q2, 0, none⟩ (.int .i64 (T : Int))).setCell ⟨q2, 1, none⟩ (.int .u32 (U : Int))).setCell ⟨q2, 2, none⟩ (.int .u32 (V : Int))).setCell ⟨q2, 3, none⟩ (.bool AD)) (fun k => k = p)) := Hf10.out.newer hfz (fun k hk => by rw [hk]; exact Hap.out.2.2.2.1)
      clear hfz
      go_wp2
      refine bodyPost_ret (results_cell1 rfl rfl (run_loadVar_row _ _ 61 _ _ (0, 0) _ Hrow.out Tryd.underlying61 rfl evSize4)) rfl ?_
      exact ⟨rfl, Hrz.out, Hfz.out⟩

end Go.Proofs.YtpeibameegjefaaDoor
