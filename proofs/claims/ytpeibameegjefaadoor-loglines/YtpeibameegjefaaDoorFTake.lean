/-
  The contract of logfmt's take: one line read; true where it is whole.
-/
import Derived.Test.YtpeibameegjefaaDoorFSign
import Derived.Test.YtpeibameegjefaaDoorJ4
namespace Go.Proofs.YtpeibameegjefaaDoor
open Go.RowKit

theorem results_ct {fn : Func} {p q : Tmp} {ty : TypeId} (h : fn.results = #[.cell p ty, .tmp q]) {tmps : Array Value} {P : Program} {w : World} {b o : Nat} {v u : Value} (hp : tmps.getD p undef = .pointer (some ⟨b, o, none⟩)) (hu : tmps.getD q undef = u) (hl : (loadVar ty ⟨b, o, none⟩).run P w = .ok v w) :
    (results fn tmps).run P w = .ok (.tuple #[v, u]) w := by
  have hp' : tmps[p]?.getD undef = .pointer (some ⟨b, o, none⟩) := by rw [← hp]; simp
  have hu' : tmps[q]?.getD undef = u := by rw [← hu]; simp
  simp [results, h, asAddr, hp', hu', hl]
theorem evSz4 : (Tryd.prog.info? 61).map (·.size) = some 4 := by kernel_rfl
set_option maxRecDepth 4000 in
set_option maxHeartbeats 3200000 in
theorem logTake_any (p : Nat) (s : ByteArray) (c : Sc) (w : World) (h : LSc w p s c) (hok : ScOk s c) (hs : s.size ≤ 1000000000) (hK : ∀ z, Fr w z (fun k => k = p) → KVar z) : Calls Tryd.prog 61 #[.pointer (some ⟨p, 0, none⟩)] w fun r w' =>
    (∃ X, r = .returned (.tuple #[evV X, .bool (decide ((evEnd s c).err = 0))]) ∧ EvFit X ∧ ((evEnd s c).err = 0 → X = evVal s c)) ∧ LSc w' p s (evEnd s c) ∧ Fr w w' (fun k => k = p) := by
  obtain ⟨AD, hAD⟩ : ∃ x, x = evPlus s (ev2 s c) := ⟨_, rfl⟩
  obtain ⟨T, hT⟩ : ∃ x, x = scNumVal s maxT c := ⟨_, rfl⟩
  obtain ⟨U, hU⟩ : ∃ x, x = scNumVal s maxV (ev4 s c) := ⟨_, rfl⟩
  obtain ⟨V, hV⟩ : ∃ x, x = scNumVal s maxV (ev6 s c) := ⟨_, rfl⟩
  have hT2 : T ≤ 4611686018427387903 := by rw [hT]; exact scNumVal_le s maxT c
  have hU2 : U ≤ 4294967295 := by rw [hU]; exact scNumVal_le s maxV _
  have hV2 : V ≤ 4294967295 := by rw [hV]; exact scNumVal_le s maxV _
  have Hval : Hid (((T : Int), (U, V), AD) = evVal s c) := by
    show _ = _
    unfold evVal
    rw [← hT, ← hU, ← hV, ← hAD]
  have Hfit : Hid (EvFit ((T : Int), (U, V), AD)) := ⟨⟨by show (-9223372036854775808 : Int) ≤ (T : Int); omega, by show (T : Int) ≤ 9223372036854775807; omega⟩, by show U < 4294967296; omega, by show V < 4294967296; omega⟩
  have wT : IntKind.i64.wrap (T : Int) = (T : Int) := IntWalk.i64_in _ (by omega)
  have wU : IntKind.u32.wrap (U : Int) = (U : Int) := by rw [IntKind.wrap_u32]; omega
  have wV : IntKind.u32.wrap (V : Int) = (V : Int) := by rw [IntKind.wrap_u32]; omega
  have ok1 : ScOk s (scNum s maxT c) := scNum_ok hok _
  have ok2 : ScOk s (ev2 s c) := scByte_ok ok1 _
  have ok3 : ScOk s (evSg s (ev2 s c)) := by rw [sg_sign]; split <;> exact scByte_ok ok2 _
  have ok4 : ScOk s (ev4 s c) := scByte_ok ok3 _
  have ok5 : ScOk s (scNum s maxV (ev4 s c)) := scNum_ok ok4 _
  have ok6 : ScOk s (ev6 s c) := scByte_ok ok5 _
  have ok7 : ScOk s (scNum s maxV (ev6 s c)) := scNum_ok ok6 _
  have k1 := fun z hz hk => sNum 4611686018427387903 4611686018427387903 rfl (by decide) p s c z hz hok hs hk
  have k2 := fun z hz => sB 32 32 rfl p s (scNum s maxT c) z hz ok1 hs
  have k3 := fun z hz => logSign_any p s (ev2 s c) z hz ok2 hs
  have k4 := fun z hz => sB 32 32 rfl p s (evSg s (ev2 s c)) z hz ok3 hs
  have k5 := fun z hz hk => sNum 4294967295 4294967295 rfl (by decide) p s (ev4 s c) z hz ok4 hs hk
  have k6 := fun z hz => sB 32 32 rfl p s (scNum s maxV (ev4 s c)) z hz ok5 hs
  have k7 := fun z hz hk => sNum 4294967295 4294967295 rfl (by decide) p s (ev6 s c) z hz ok6 hs hk
  have k8 := fun z hz => sB 10 10 rfl p s (scNum s maxV (ev6 s c)) z hz ok7 hs
  rw [byte_iff (b := 10) (by decide)] at k8
  change ∀ z, _ → _ → Calls _ _ _ _ fun r w' => r = .returned (.int .u64 (scNumVal s maxT c : Int)) ∧ LSc w' p s (scNum s maxT c) ∧ Fr z w' (fun k => k = p) at k1
  change ∀ z, _ → _ → Calls _ _ _ _ fun r w' => r = .returned (.int .u64 (scNumVal s maxV (ev4 s c) : Int)) ∧ LSc w' p s (scNum s maxV (ev4 s c)) ∧ Fr z w' (fun k => k = p) at k5
  change ∀ z, _ → _ → Calls _ _ _ _ fun r w' => r = .returned (.int .u64 (scNumVal s maxV (ev6 s c) : Int)) ∧ LSc w' p s (scNum s maxV (ev6 s c)) ∧ Fr z w' (fun k => k = p) at k7
  change ∀ z, _ → Calls _ _ _ _ fun r w' => _ ∧ LSc w' p s (ev2 s c) ∧ _ at k2
  change ∀ z, _ → Calls _ _ _ _ fun r w' => _ ∧ LSc w' p s (ev4 s c) ∧ _ at k4
  change ∀ z, _ → Calls _ _ _ _ fun r w' => _ ∧ LSc w' p s (ev6 s c) ∧ _ at k6
  change ∀ z, _ → Calls _ _ _ _ fun r w' => r = .returned (.bool (decide ((evEnd s c).err = 0))) ∧ LSc w' p s (evEnd s c) ∧ _ at k8
  rw [← hT] at k1
  rw [← hAD] at k3
  rw [← hU] at k5
  rw [← hV] at k7
  obtain ⟨O2, hO2⟩ : ∃ x, x = scByteOk s 32 (scNum s maxT c) := ⟨_, rfl⟩
  obtain ⟨O4, hO4⟩ : ∃ x, x = scByteOk s 32 (evSg s (ev2 s c)) := ⟨_, rfl⟩
  obtain ⟨O6, hO6⟩ : ∃ x, x = scByteOk s 32 (scNum s maxV (ev4 s c)) := ⟨_, rfl⟩
  rw [← hO2] at k2
  rw [← hO4] at k4
  rw [← hO6] at k6
  obtain ⟨e8, he8⟩ : ∃ x, x = evEnd s c := ⟨_, rfl⟩
  rw [← he8] at k8 ⊢
  obtain ⟨OK, hOK⟩ : ∃ x, x = decide (e8.err = 0) := ⟨_, rfl⟩
  rw [← hOK] at k8 ⊢
  have HOK : Hid _ := hOK
  obtain ⟨c3, hc3⟩ : ∃ x, x = evSg s (ev2 s c) := ⟨_, rfl⟩
  rw [← hc3] at k3 k4
  obtain ⟨c2, hc2⟩ : ∃ x, x = ev2 s c := ⟨_, rfl⟩
  rw [← hc2] at k2 k3
  have H : Hid (LSc w p s c) := h
  have HK : Hid (∀ z, Fr w z (fun k => k = p) → KVar z) := hK
  have K1 : Hid _ := k1
  have K2 : Hid _ := k2
  have K3 : Hid _ := k3
  have K4 : Hid _ := k4
  have K5 : Hid _ := k5
  have K6 : Hid _ := k6
  have K7 : Hid _ := k7
  have K8 : Hid _ := k8
  clear k1 k2 k3 k4 k5 k6 k7 k8 h hK hok ok1 ok2 ok3 ok4 ok5 ok6 ok7 hT hU hV hO2 hO4 hO6 hOK he8 hc3 hc2 hAD hT2 hU2 hV2
  go_enter Tryd.func61, Tryd.ntmps61
  go_upto_region 1 with fail
  obtain ⟨q, hq⟩ : ∃ q, q = w.heap.size := ⟨_, rfl⟩
  obtain ⟨w1, hw1⟩ : ∃ x, x = w.alloc (.cells #[.int .i64 0, .int .u32 0, .int .u32 0, .bool false] 61) := ⟨_, rfl⟩
  rw [← hw1, ← hq]
  have Hq1 : Hid (w1.heap[q]? = some (.cells #[.int .i64 0, .int .u32 0, .int .u32 0, .bool false] 61 (0, 0))) := by show _ = _; rw [hw1, hq]; exact heap_alloc_new _ _
  have Hf1 : Hid (Fr w w1 (fun k => k = p)) := by show Fr _ _ _; rw [hw1]; exact (Fr.refl _ _).alloc _
  have Hqp : Hid (q ≠ p) := by show _ ≠ _; have := lt_of_block H.out; omega
  have Hqw : Hid (w.heap.size ≤ q) := by show _ ≤ _; omega
  have Hr1 : Hid (LSc w1 p s c) := by show LSc _ _ _ _; rw [hw1]; exact blk_alloc _ H.out
  clear hw1 hq H
  have kk := K1.out w1 Hr1.out (HK.out _ Hf1.out)
  go_wp2_with fail
  refine kk.mono ?_
  rintro r w2 ⟨rfl, r2, f2⟩
  have Hr2 : Hid (LSc w2 p s (scNum s maxT c)) := r2
  have Hq2 : Hid (w2.heap[q]? = some (.cells #[.int .i64 0, .int .u32 0, .int .u32 0, .bool false] 61 (0, 0))) := f2.kept Hq1.out (fun h => Hqp.out h)
  have Hf2 : Hid (Fr w w2 (fun k => k = p)) := Hf1.out.trans f2 (fun _ _ h => h)
  clear kk r2 f2
  have kk := K2.out w2 Hr2.out 
  go_wp2_with fail
  refine kk.mono ?_
  rintro r w3 ⟨rfl, r2, f2⟩
  have Hr3 : Hid (LSc w3 p s (c2)) := r2
  have Hq3 : Hid (w3.heap[q]? = some (.cells #[.int .i64 0, .int .u32 0, .int .u32 0, .bool false] 61 (0, 0))) := f2.kept Hq2.out (fun h => Hqp.out h)
  have Hf3 : Hid (Fr w w3 (fun k => k = p)) := Hf2.out.trans f2 (fun _ _ h => h)
  clear kk r2 f2
  have kk := K3.out w3 Hr3.out 
  go_wp2_with fail
  refine kk.mono ?_
  rintro r w4 ⟨rfl, r2, f2⟩
  have Hr4 : Hid (LSc w4 p s (c3)) := r2
  have Hq4 : Hid (w4.heap[q]? = some (.cells #[.int .i64 0, .int .u32 0, .int .u32 0, .bool false] 61 (0, 0))) := f2.kept Hq3.out (fun h => Hqp.out h)
  have Hf4 : Hid (Fr w w4 (fun k => k = p)) := Hf3.out.trans f2 (fun _ _ h => h)
  clear kk r2 f2
  have kk := K4.out w4 Hr4.out 
  go_wp2_with fail
  refine kk.mono ?_
  rintro r w5 ⟨rfl, r2, f2⟩
  have Hr5 : Hid (LSc w5 p s (ev4 s c)) := r2
  have Hq5 : Hid (w5.heap[q]? = some (.cells #[.int .i64 0, .int .u32 0, .int .u32 0, .bool false] 61 (0, 0))) := f2.kept Hq4.out (fun h => Hqp.out h)
  have Hf5 : Hid (Fr w w5 (fun k => k = p)) := Hf4.out.trans f2 (fun _ _ h => h)
  clear kk r2 f2
  have kk := K5.out w5 Hr5.out (HK.out _ Hf5.out)
  go_wp2_with fail
  refine kk.mono ?_
  rintro r w6 ⟨rfl, r2, f2⟩
  have Hr6 : Hid (LSc w6 p s (scNum s maxV (ev4 s c))) := r2
  have Hq6 : Hid (w6.heap[q]? = some (.cells #[.int .i64 0, .int .u32 0, .int .u32 0, .bool false] 61 (0, 0))) := f2.kept Hq5.out (fun h => Hqp.out h)
  have Hf6 : Hid (Fr w w6 (fun k => k = p)) := Hf5.out.trans f2 (fun _ _ h => h)
  clear kk r2 f2
  have kk := K6.out w6 Hr6.out 
  go_wp2_with fail
  refine kk.mono ?_
  rintro r w7 ⟨rfl, r2, f2⟩
  have Hr7 : Hid (LSc w7 p s (ev6 s c)) := r2
  have Hq7 : Hid (w7.heap[q]? = some (.cells #[.int .i64 0, .int .u32 0, .int .u32 0, .bool false] 61 (0, 0))) := f2.kept Hq6.out (fun h => Hqp.out h)
  have Hf7 : Hid (Fr w w7 (fun k => k = p)) := Hf6.out.trans f2 (fun _ _ h => h)
  clear kk r2 f2
  have kk := K7.out w7 Hr7.out (HK.out _ Hf7.out)
  go_wp2_with fail
  refine kk.mono ?_
  rintro r w8 ⟨rfl, r2, f2⟩
  have Hr8 : Hid (LSc w8 p s (scNum s maxV (ev6 s c))) := r2
  have Hq8 : Hid (w8.heap[q]? = some (.cells #[.int .i64 0, .int .u32 0, .int .u32 0, .bool false] 61 (0, 0))) := f2.kept Hq7.out (fun h => Hqp.out h)
  have Hf8 : Hid (Fr w w8 (fun k => k = p)) := Hf7.out.trans f2 (fun _ _ h => h)
  clear kk r2 f2
  have kk := K8.out w8 Hr8.out 
  go_wp2_with fail
  refine kk.mono ?_
  rintro r w9 ⟨rfl, r2, f2⟩
  have Hr9 : Hid (LSc w9 p s (e8)) := r2
  have Hq9 : Hid (w9.heap[q]? = some (.cells #[.int .i64 0, .int .u32 0, .int .u32 0, .bool false] 61 (0, 0))) := f2.kept Hq8.out (fun h => Hqp.out h)
  have Hf9 : Hid (Fr w w9 (fun k => k = p)) := Hf8.out.trans f2 (fun _ _ h => h)
  clear kk r2 f2
  cases OK
  · have Hne : Hid (e8.err ≠ 0) := fun h => by have := HOK.out; rw [decide_eq_true h] at this; cases this
    obtain ⟨z0, z1, z2, z3⟩ := four_cells Hq9.out
    have y0 := four_free (k := 0) Hq9.out
    have y1 := four_free (k := 1) Hq9.out
    have y2 := four_free (k := 2) Hq9.out
    have y3 := four_free (k := 3) Hq9.out
    have Hrow : Hid _ := four_setD (four_setC (four_setB (four_setA Hq9.out (u := .int .i64 0)) (u := .int .u32 0)) (u := .int .u32 0)) (u := .bool false)
    have hfz : Fr w9 ((((w9.setCell ⟨q, 0, none⟩ (.int .i64 0)).setCell ⟨q, 1, none⟩ (.int .u32 0)).setCell ⟨q, 2, none⟩ (.int .u32 0)).setCell ⟨q, 3, none⟩ (.bool false)) (fun k => k = q) := (((fr_put _ _ _ _).trans (fr_put _ _ _ _) (fun _ _ h => h)).trans (fr_put _ _ _ _) (fun _ _ h => h)).trans (fr_put _ _ _ _) (fun _ _ h => h)
    have Hrz : Hid (LSc ((((w9.setCell ⟨q, 0, none⟩ (.int .i64 0)).setCell ⟨q, 1, none⟩ (.int .u32 0)).setCell ⟨q, 2, none⟩ (.int .u32 0)).setCell ⟨q, 3, none⟩ (.bool false)) p s e8) := hfz.kept Hr9.out (fun h => Hqp.out h.symm)
    have Hfz : Hid (Fr w ((((w9.setCell ⟨q, 0, none⟩ (.int .i64 0)).setCell ⟨q, 1, none⟩ (.int .u32 0)).setCell ⟨q, 2, none⟩ (.int .u32 0)).setCell ⟨q, 3, none⟩ (.bool false)) (fun k => k = p)) := Hf9.out.newer hfz (fun k hk => by rw [hk]; exact Hqw.out)
    clear hfz
    go_wp2_with fail
    refine bodyPost_ret (results_ct rfl rfl rfl (run_loadVar_row _ _ 61 _ _ (0, 0) _ Hrow.out Tryd.underlying61 rfl evSz4)) rfl ?_
    exact ⟨⟨(0, (0, 0), false), rfl, ⟨⟨by decide, by decide⟩, by decide, by decide⟩, fun h => absurd h Hne.out⟩, Hrz.out, Hfz.out⟩
  · skip
    obtain ⟨z0, z1, z2, z3⟩ := four_cells Hq9.out
    have y0 := four_free (k := 0) Hq9.out
    have y1 := four_free (k := 1) Hq9.out
    have y2 := four_free (k := 2) Hq9.out
    have y3 := four_free (k := 3) Hq9.out
    have Hrow : Hid _ := four_setD (four_setC (four_setB (four_setA Hq9.out (u := .int .i64 (T : Int))) (u := .int .u32 (U : Int))) (u := .int .u32 (V : Int))) (u := .bool AD)
    have hfz : Fr w9 ((((w9.setCell ⟨q, 0, none⟩ (.int .i64 (T : Int))).setCell ⟨q, 1, none⟩ (.int .u32 (U : Int))).setCell ⟨q, 2, none⟩ (.int .u32 (V : Int))).setCell ⟨q, 3, none⟩ (.bool AD)) (fun k => k = q) := (((fr_put _ _ _ _).trans (fr_put _ _ _ _) (fun _ _ h => h)).trans (fr_put _ _ _ _) (fun _ _ h => h)).trans (fr_put _ _ _ _) (fun _ _ h => h)
    have Hrz : Hid (LSc ((((w9.setCell ⟨q, 0, none⟩ (.int .i64 (T : Int))).setCell ⟨q, 1, none⟩ (.int .u32 (U : Int))).setCell ⟨q, 2, none⟩ (.int .u32 (V : Int))).setCell ⟨q, 3, none⟩ (.bool AD)) p s e8) := hfz.kept Hr9.out (fun h => Hqp.out h.symm)
    have Hfz : Hid (Fr w ((((w9.setCell ⟨q, 0, none⟩ (.int .i64 (T : Int))).setCell ⟨q, 1, none⟩ (.int .u32 (U : Int))).setCell ⟨q, 2, none⟩ (.int .u32 (V : Int))).setCell ⟨q, 3, none⟩ (.bool AD)) (fun k => k = p)) := Hf9.out.newer hfz (fun k hk => by rw [hk]; exact Hqw.out)
    clear hfz
    go_wp2_with fail
    refine bodyPost_ret (results_ct rfl rfl rfl (run_loadVar_row _ _ 61 _ _ (0, 0) _ Hrow.out Tryd.underlying61 rfl evSz4)) rfl ?_
    exact ⟨⟨_, rfl, Hfit.out, fun _ => Hval.out⟩, Hrz.out, Hfz.out⟩

end Go.Proofs.YtpeibameegjefaaDoor
