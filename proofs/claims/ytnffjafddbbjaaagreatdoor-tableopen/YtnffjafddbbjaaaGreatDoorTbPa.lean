/-
  The contract of table's Parse.
-/
import Derived.Test.YtnffjafddbbjaaaGreatDoorJ11
import Derived.Test.YtnffjafddbbjaaaGreatDoorJ4
import Derived.Test.YtnffjafddbbjaaaGreatDoorLPBackP
import Derived.Test.YtnffjafddbbjaaaGreatDoorJ1
namespace Go.Proofs.YtnffjafddbbjaaaGreatDoor
open Go.RowKit

set_option maxRecDepth 4000 in
set_option maxHeartbeats 6400000 in
theorem tabParse_any (s : ByteArray) (w : World) (hs : s.size ≤ 100000) (hKW : KBoth w) : Calls Tryz.prog 14 #[.string s] w fun r w' =>
    (∃ v', r = .returned (.tuple #[histV (parseTab s).n v', placeR (parseTab s), .int .i64 ((parseTab s).err : Int)]) ∧ RdV w' v' (parseTab s).evs) ∧ Fr w w' (fun _ => False) := by
  obtain ⟨R, hR⟩ : ∃ R, R = parseTab s := ⟨_, rfl⟩
  rw [← hR]
  have HKW : Hid (KBoth w) := hKW
  have kr := fun q z hz hk => tabRead_any q s z hz hs hk
  rw [tab_told hs (th4_ok s) (s.size + 2) (by omega)] at hR
  have hlen : (readT s (s.size + 2) [] (th4 s)).1.length ≤ 100000 := by
    obtain ⟨r, g1, g2⟩ := readT_more s (s.size + 2) [] (th4 s) (by simp) (th4_ok s).1
    rw [g1, List.nil_append]
    simp only [List.length_nil] at g2
    omega
  obtain ⟨⟨E, c⟩, hP⟩ : ∃ P, P = readT s (s.size + 2) [] (th4 s) := ⟨_, rfl⟩
  obtain ⟨n, hn⟩ : ∃ x, x = scNumVal s maxN (th2 s) := ⟨_, rfl⟩
  rw [← hP] at hR hlen kr
  rw [← hn] at hR kr
  dsimp only at hlen kr
  unfold toldT at hR
  dsimp only at hR
  have Hlen : Hid _ := hlen
  have HR : Hid _ := hR
  have kc := fun z v hz hf => lcheck_any n v E z hz (by omega) hf
  have kb := fun z v hz hf => back_any n v E z hz (by omega) hf
  have hle : (lifeCheckF n E).1 ≤ E.length := lcheck_len n E
  obtain ⟨⟨K1, K2⟩, hKK⟩ : ∃ x, x = lifeCheckF n E := ⟨_, rfl⟩
  rw [← hKK] at kc hle
  dsimp only at hle
  obtain ⟨⟨B0, B1, B2⟩, hBB⟩ : ∃ x, x = backF n E := ⟨_, rfl⟩
  rw [← hBB] at kb
  have HKK : Hid _ := hKK
  have HBB : Hid _ := hBB
  have wK : IntKind.i64.wrap ((K1 : Int) + 2) = ((K1 + 2 : Nat) : Int) := IntWalk.i64_in _ (by omega)
  clear hKK hBB hP hn hR hlen hle hKW hs
  go_enter Tryz.func14, Tryz.ntmps14
  go_upto_region 1 with fail
  obtain ⟨q2, hq2⟩ : ∃ q, q = w.heap.size := ⟨_, rfl⟩
  obtain ⟨q3, hq3⟩ : ∃ q, q = q2 + 1 := ⟨_, rfl⟩
  obtain ⟨w1, hw1⟩ : ∃ x, x = (w.alloc (.cells #[.int .u64 0, .slice none 0 0] 25)).alloc (.cells #[.int .i64 0, .int .i64 0] 38) := ⟨_, rfl⟩
  rw [← hw1, ← hq2, ← hq3]
  have HB1 : Hid (w1.heap[q2]? = some (.cells #[.int .u64 0, .slice none 0 0] 25 (0, 0)) ∧ w1.heap[q3]? = some (.cells #[.int .i64 0, .int .i64 0] 38 (0, 0))) := ⟨by rw [hw1, hq2]; exact blk_alloc _ (heap_alloc_new _ _), by
    have h0 := heap_alloc_new (w.alloc (.cells #[.int .u64 0, .slice none 0 0] 25)) (.cells #[.int .i64 0, .int .i64 0] 38)
    rw [hw1, hq3, hq2]
    simpa using h0⟩
  have Hf1 : Hid (Fr w w1 (fun _ => False)) := by show Fr _ _ _; rw [hw1]; exact ((Fr.refl _ _).alloc _).alloc _
  have Hqq : Hid (w.heap.size ≤ q2 ∧ q2 < q3) := ⟨by omega, by omega⟩
  clear hq2 hq3 hw1
  go_wp2_with fail
  refine (scanNew_any s w1).mono ?_
  rintro r w2 ⟨p, rfl, hp, r2, f2⟩
  have Hr2 : Hid (LSc w2 p s ⟨0, 1, 1, 0⟩) := r2
  have Hp : Hid (q3 < p) := by show _ < _; have := lt_of_block HB1.out.2; omega
  have HB2 : Hid (w2.heap[q2]? = some (.cells #[.int .u64 0, .slice none 0 0] 25 (0, 0)) ∧ w2.heap[q3]? = some (.cells #[.int .i64 0, .int .i64 0] 38 (0, 0))) := ⟨f2.kept HB1.out.1 (fun h => h), f2.kept HB1.out.2 (fun h => h)⟩
  have Hf2 : Hid (Fr w w2 (fun _ => False)) := Hf1.out.none f2
  clear r2 f2 hp
  have kr' := kr p w2 Hr2.out (fun z hz => HKW.out.1.keep (Hf2.out.newer hz (fun k hk => by have := Hp.out; have := Hqq.out; omega)))
  clear kr
  go_wp2_with fail
  refine kr'.mono ?_
  rintro r w3 ⟨⟨v, rfl, hv, hvn⟩, hfit, r3, f3⟩
  obtain ⟨a0, c0, hv0, -⟩ := hv.form
  obtain ⟨m0, hm0⟩ : ∃ m, m = E.length := ⟨_, rfl⟩
  rw [← hm0] at hv0
  subst hv0
  clear hm0
  have Hfit : Hid (∀ x ∈ E, LfFit x) := hfit
  have Hr3 : Hid (LSc w3 p s c) := r3
  have Hv3 : Hid (RdL w3 (.slice a0 m0 c0) E) := hv
  have HB3 : Hid (w3.heap[q2]? = some (.cells #[.int .u64 0, .slice none 0 0] 25 (0, 0)) ∧ w3.heap[q3]? = some (.cells #[.int .i64 0, .int .i64 0] 38 (0, 0))) := ⟨f3.kept HB2.out.1 (fun h => by have := Hp.out; have := Hqq.out; omega), f3.kept HB2.out.2 (fun h => by have := Hp.out; omega)⟩
  have Hf3 : Hid (Fr w w3 (fun _ => False)) := Hf2.out.newer f3 (fun k hk => by have := Hp.out; have := Hqq.out; omega)
  clear kr' hv hvn hfit r3 f3
  have kc' := kc w3 _ Hv3.out Hfit.out
  clear kc
  go_wp2_with fail
  refine kc'.mono ?_
  rintro r w5 ⟨rfl, g⟩
  have HB5 : Hid (w5.heap[q2]? = some (.cells #[.int .u64 0, .slice none 0 0] 25 (0, 0)) ∧ w5.heap[q3]? = some (.cells #[.int .i64 0, .int .i64 0] 38 (0, 0)) ∧ LSc w5 p s c) := ⟨g.kept HB3.out.1 (fun h => h), g.kept HB3.out.2 (fun h => h), g.kept Hr3.out (fun h => h)⟩
  have Hv5 : Hid (RdL w5 (.slice a0 m0 c0) E) := Hv3.out.keep g
  have Hf5 : Hid (Fr w w5 (fun _ => False)) := Hf3.out.none g
  clear kc' g
  by_cases hk2 : K2 = 0
  case neg =>
    have e1 : ((K2 : Int) != 0) = true := by rw [bne_iff_ne]; omega
    have e1' : ((K2 : Int) == 0) = false := by rw [beq_eq_false_iff_ne]; omega
    have e2 : (K2 == 0) = false := by rw [beq_eq_false_iff_ne]; exact hk2
    have HRR : Hid (R = ⟨0, [], K1 + 2, 1, K2⟩) := by show _ = _; rw [HR.out, ← HKK.out]; exact if_pos hk2
    clear hk2
    obtain ⟨z0, z1⟩ : w5.cell? ⟨q2, 0, none⟩ = some (.int .u64 0) ∧ w5.cell? ⟨q2, 1, none⟩ = some (.slice none 0 0) := ⟨two_cell0 HB5.out.1, two_cell1 HB5.out.1⟩
    obtain ⟨u0, u1⟩ : w5.cell? ⟨q3, 0, none⟩ = some (.int .i64 0) ∧ w5.cell? ⟨q3, 1, none⟩ = some (.int .i64 0) := ⟨two_cell0 HB5.out.2.1, two_cell1 HB5.out.2.1⟩
    have f20 := two_free HB5.out.1 0
    have f21 := two_free HB5.out.1 1
    have f30 := two_free HB5.out.2.1 0
    have f31 := two_free HB5.out.2.1 1
    have hne : q2 ≠ q3 := by have := Hqq.out; omega
    have hne' : q3 ≠ q2 := fun h => hne h.symm
    obtain ⟨wz, hwz⟩ : ∃ x, x = (((w5.setCell ⟨q2, 0, none⟩ (.int .u64 0)).setCell ⟨q2, 1, none⟩ (.slice none 0 0)).setCell ⟨q3, 0, none⟩ (.int .i64 ((K1 + 2 : Nat) : Int))).setCell ⟨q3, 1, none⟩ (.int .i64 1) := ⟨_, rfl⟩
    have hfz : Fr w5 wz (fun k => k = q2 ∨ k = q3) := by
      rw [hwz]
      exact ((((fr_put w5 q2 _ _).trans (fr_put _ q2 _ _) (fun _ _ h => h)).mono (fun _ _ h => .inl h)).trans ((fr_put _ q3 _ _).trans (fr_put _ q3 _ _) (fun _ _ h => h)) (fun _ _ h => .inr h))
    have hz2 : wz.heap[q2]? = some (.cells #[.int .u64 0, .slice none 0 0] 25 (0, 0)) := by
      rw [hwz]
      exact blk_set_other (blk_set_other (two_set1 (two_set0 HB5.out.1)) hne) hne
    have hz3 : wz.heap[q3]? = some (.cells #[.int .i64 ((K1 + 2 : Nat) : Int), .int .i64 1] 38 (0, 0)) := by
      rw [hwz]
      exact two_set1 (two_set0 (blk_set_other (blk_set_other HB5.out.2.1 hne') hne'))
    have Hfz : Hid (Fr w wz (fun _ => False)) := Hf5.out.newer hfz (fun k hk => by have h1 := Hqq.out; rcases hk with h | h <;> omega)
    rw [hwz] at hz2 hz3
    have Ha2 : Hid _ := hz2
    have Ha3 : Hid _ := hz3
    clear hfz hz2 hz3
    go_wp2
    obtain rfl := HRR.out
    skip
    skip
    refine bodyPost_ret (results_cct rfl rfl rfl (run_loadVar_row _ _ 25 _ _ (0, 0) _ Ha2.out Tryz.underlying25 rfl histSize) (run_loadVar_row _ _ 38 _ _ (0, 0) _ Ha3.out Tryz.underlying38 rfl placeSize2)) rfl ?_
    have hfz9 := Hfz.out
    rw [hwz] at hfz9
    exact ⟨⟨_, rfl, RdV.nil _⟩, hfz9⟩
  have e1 : ((K2 : Int) != 0) = false := by rw [bne_eq_false_iff_eq]; omega
  have e1' : ((K2 : Int) == 0) = true := by rw [beq_iff_eq]; omega
  subst hk2
  have ke := scanErr_any p s c w5 HB5.out.2.2
  clear wK
  go_wp2_with fail
  refine ke.mono ?_
  rintro r w6 ⟨rfl, g⟩
  have HB6 : Hid (w6.heap[q2]? = some (.cells #[.int .u64 0, .slice none 0 0] 25 (0, 0)) ∧ w6.heap[q3]? = some (.cells #[.int .i64 0, .int .i64 0] 38 (0, 0)) ∧ LSc w6 p s c) := ⟨g.kept HB5.out.1 (fun h => h), g.kept HB5.out.2.1 (fun h => h), g.kept HB5.out.2.2 (fun h => h)⟩
  have Hv6 : Hid (RdL w6 (.slice a0 m0 c0) E) := Hv5.out.keep g
  have Hf6 : Hid (Fr w w6 (fun _ => False)) := Hf5.out.none g
  clear ke g e1 e1'
  by_cases he : c.err = 0
  case neg =>
    have e1 : ((c.err : Int) != 0) = true := by rw [bne_iff_ne]; omega
    have e1' : ((c.err : Int) == 0) = false := by rw [beq_eq_false_iff_ne]; omega
    have e2 : (c.err == 0) = false := by rw [beq_eq_false_iff_ne]; exact he
    have HRR : Hid (R = ⟨0, [], c.line, c.col, c.err⟩) := by show _ = _; rw [HR.out, ← HKK.out, if_neg (fun h => h rfl)]; exact if_pos he
    clear he
    have kp := scanPlace_any p s c w6 HB6.out.2.2
    unfold placeV at kp
    go_wp2_with fail
    refine kp.mono ?_
    rintro r w7 ⟨rfl, g⟩
    have HB7 : Hid (w7.heap[q2]? = some (.cells #[.int .u64 0, .slice none 0 0] 25 (0, 0)) ∧ w7.heap[q3]? = some (.cells #[.int .i64 0, .int .i64 0] 38 (0, 0))) := ⟨g.kept HB6.out.1 (fun h => h), g.kept HB6.out.2.1 (fun h => h)⟩
    have Hf7 : Hid (Fr w w7 (fun _ => False)) := Hf6.out.none g
    clear kp g
    obtain ⟨z0, z1⟩ : w7.cell? ⟨q2, 0, none⟩ = some (.int .u64 0) ∧ w7.cell? ⟨q2, 1, none⟩ = some (.slice none 0 0) := ⟨two_cell0 HB7.out.1, two_cell1 HB7.out.1⟩
    obtain ⟨u0, u1⟩ : w7.cell? ⟨q3, 0, none⟩ = some (.int .i64 0) ∧ w7.cell? ⟨q3, 1, none⟩ = some (.int .i64 0) := ⟨two_cell0 HB7.out.2, two_cell1 HB7.out.2⟩
    have f20 := two_free HB7.out.1 0
    have f21 := two_free HB7.out.1 1
    have f30 := two_free HB7.out.2 0
    have f31 := two_free HB7.out.2 1
    have hne : q2 ≠ q3 := by have := Hqq.out; omega
    have hne' : q3 ≠ q2 := fun h => hne h.symm
    obtain ⟨wz, hwz⟩ : ∃ x, x = (((w7.setCell ⟨q2, 0, none⟩ (.int .u64 0)).setCell ⟨q2, 1, none⟩ (.slice none 0 0)).setCell ⟨q3, 0, none⟩ (.int .i64 (c.line : Int))).setCell ⟨q3, 1, none⟩ (.int .i64 (c.col : Int)) := ⟨_, rfl⟩
    have hfz : Fr w7 wz (fun k => k = q2 ∨ k = q3) := by
      rw [hwz]
      exact ((((fr_put w7 q2 _ _).trans (fr_put _ q2 _ _) (fun _ _ h => h)).mono (fun _ _ h => .inl h)).trans ((fr_put _ q3 _ _).trans (fr_put _ q3 _ _) (fun _ _ h => h)) (fun _ _ h => .inr h))
    have hz2 : wz.heap[q2]? = some (.cells #[.int .u64 0, .slice none 0 0] 25 (0, 0)) := by
      rw [hwz]
      exact blk_set_other (blk_set_other (two_set1 (two_set0 HB7.out.1)) hne) hne
    have hz3 : wz.heap[q3]? = some (.cells #[.int .i64 (c.line : Int), .int .i64 (c.col : Int)] 38 (0, 0)) := by
      rw [hwz]
      exact two_set1 (two_set0 (blk_set_other (blk_set_other HB7.out.2 hne') hne'))
    have Hfz : Hid (Fr w wz (fun _ => False)) := Hf7.out.newer hfz (fun k hk => by have h1 := Hqq.out; rcases hk with h | h <;> omega)
    rw [hwz] at hz2 hz3
    have Ha2 : Hid _ := hz2
    have Ha3 : Hid _ := hz3
    clear hfz hz2 hz3
    go_wp2
    obtain rfl := HRR.out
    skip
    skip
    refine bodyPost_ret (results_cct rfl rfl rfl (run_loadVar_row _ _ 25 _ _ (0, 0) _ Ha2.out Tryz.underlying25 rfl histSize) (run_loadVar_row _ _ 38 _ _ (0, 0) _ Ha3.out Tryz.underlying38 rfl placeSize2)) rfl ?_
    have hfz9 := Hfz.out
    rw [hwz] at hfz9
    exact ⟨⟨_, rfl, RdV.nil _⟩, hfz9⟩
  have e1 : ((c.err : Int) != 0) = false := by rw [bne_eq_false_iff_eq]; omega
  have e1' : ((c.err : Int) == 0) = true := by rw [beq_iff_eq]; omega
  have e2 : (c.err == 0) = true := by rw [beq_iff_eq]; exact he
  have HRR : Hid (R = ⟨B0, B1, 0, 0, 0⟩) := by
    show _ = _
    rw [HR.out, ← HKK.out, if_neg (fun h => h rfl), if_neg (by rw [he]; decide)]
    unfold endT
    rw [← HBB.out]
  have hB2 : B2 = 0 := by
    have h := HBB.out
    unfold backF at h
    rw [← HKK.out, if_pos rfl] at h
    exact (Prod.mk.inj (Prod.mk.inj h).2).2
  subst hB2
  clear he
  have kb' := kb w6 _ Hv6.out Hfit.out
  clear kb
  unfold histV at kb'
  try dsimp only at kb'
  go_wp2_with fail
  refine kb'.mono ?_
  rintro r w8 ⟨⟨vb, rfl, hvb⟩, g⟩
  obtain ⟨ab, cb, hvb0, -⟩ := hvb.form
  obtain ⟨mb, hmb⟩ : ∃ m, m = B1.length := ⟨_, rfl⟩
  rw [← hmb] at hvb0
  subst hvb0
  clear hmb
  have HB8 : Hid (w8.heap[q2]? = some (.cells #[.int .u64 0, .slice none 0 0] 25 (0, 0)) ∧ w8.heap[q3]? = some (.cells #[.int .i64 0, .int .i64 0] 38 (0, 0))) := ⟨g.kept HB6.out.1 (fun h => h), g.kept HB6.out.2.1 (fun h => h)⟩
  have Hv8 : Hid (RdV w8 (.slice ab mb cb) B1) := hvb
  have Hf8 : Hid (Fr w w8 (fun _ => False)) := Hf6.out.none g
  clear g kb' hvb
  go_upto_region 10 with fail
  obtain ⟨q11, hq11⟩ : ∃ q, q = w8.heap.size := ⟨_, rfl⟩
  obtain ⟨w9, hw9⟩ : ∃ x, x = w8.alloc (.cells #[.int .u64 (B0 : Int), .slice ab mb cb] 25) := ⟨_, rfl⟩
  rw [← hw9, ← hq11]
  have f6 : Fr w8 w9 (fun _ => False) := by rw [hw9]; exact (Fr.refl _ _).alloc _
  have HB9 : Hid (w9.heap[q2]? = some (.cells #[.int .u64 0, .slice none 0 0] 25 (0, 0)) ∧ w9.heap[q3]? = some (.cells #[.int .i64 0, .int .i64 0] 38 (0, 0))) := ⟨f6.kept HB8.out.1 (fun h => h), f6.kept HB8.out.2 (fun h => h)⟩
  have HQ9 : w9.heap[q11]? = some (.cells #[.int .u64 (B0 : Int), .slice ab mb cb] 25 (0, 0)) := by rw [hw9, hq11]; exact heap_alloc_new _ _
  have Hv9 : Hid (RdV w9 (.slice ab mb cb) B1) := Hv8.out.keep f6
  have Hf9 : Hid (Fr w w9 (fun _ => False)) := Hf8.out.none f6
  obtain ⟨y0, y1⟩ : w9.cell? ⟨q11, 0, none⟩ = some (.int .u64 (B0 : Int)) ∧ w9.cell? ⟨q11, 1, none⟩ = some (.slice ab mb cb) := ⟨two_cell0 HQ9, two_cell1 HQ9⟩
  clear f6 hw9 hq11 HQ9
  obtain ⟨z0, z1⟩ : w9.cell? ⟨q2, 0, none⟩ = some (.int .u64 0) ∧ w9.cell? ⟨q2, 1, none⟩ = some (.slice none 0 0) := ⟨two_cell0 HB9.out.1, two_cell1 HB9.out.1⟩
  obtain ⟨u0, u1⟩ : w9.cell? ⟨q3, 0, none⟩ = some (.int .i64 0) ∧ w9.cell? ⟨q3, 1, none⟩ = some (.int .i64 0) := ⟨two_cell0 HB9.out.2, two_cell1 HB9.out.2⟩
  have f20 := two_free HB9.out.1 0
  have f21 := two_free HB9.out.1 1
  have f30 := two_free HB9.out.2 0
  have f31 := two_free HB9.out.2 1
  have hne : q2 ≠ q3 := by have := Hqq.out; omega
  have hne' : q3 ≠ q2 := fun h => hne h.symm
  obtain ⟨wz, hwz⟩ : ∃ x, x = (((w9.setCell ⟨q2, 0, none⟩ (.int .u64 (B0 : Int))).setCell ⟨q2, 1, none⟩ (.slice ab mb cb)).setCell ⟨q3, 0, none⟩ (.int .i64 0)).setCell ⟨q3, 1, none⟩ (.int .i64 0) := ⟨_, rfl⟩
  have hfz : Fr w9 wz (fun k => k = q2 ∨ k = q3) := by
    rw [hwz]
    exact ((((fr_put w9 q2 _ _).trans (fr_put _ q2 _ _) (fun _ _ h => h)).mono (fun _ _ h => .inl h)).trans ((fr_put _ q3 _ _).trans (fr_put _ q3 _ _) (fun _ _ h => h)) (fun _ _ h => .inr h))
  have hz2 : wz.heap[q2]? = some (.cells #[.int .u64 (B0 : Int), .slice ab mb cb] 25 (0, 0)) := by
    rw [hwz]
    exact blk_set_other (blk_set_other (two_set1 (two_set0 HB9.out.1)) hne) hne
  have hz3 : wz.heap[q3]? = some (.cells #[.int .i64 0, .int .i64 0] 38 (0, 0)) := by
    rw [hwz]
    exact two_set1 (two_set0 (blk_set_other (blk_set_other HB9.out.2 hne') hne'))
  have Hfz : Hid (Fr w wz (fun _ => False)) := Hf9.out.newer hfz (fun k hk => by have h1 := Hqq.out; rcases hk with h | h <;> omega)
  have Hvz : Hid (RdV wz (.slice ab mb cb) B1) := Hv9.out.frame hfz (fun hl k hk h => by
    rcases h with h | h
    · exact rdV_apart Hv9.out hl HB9.out.1 (by rw [← h]; exact hk)
    · exact rdV_apart Hv9.out hl HB9.out.2 (by rw [← h]; exact hk))
  rw [hwz] at hz2 hz3
  have Ha2 : Hid _ := hz2
  have Ha3 : Hid _ := hz3
  clear hfz hz2 hz3
  go_wp2
  obtain rfl := HRR.out
  have hvz9 := Hvz.out
  rw [hwz] at hvz9
  refine bodyPost_ret (results_cct rfl rfl rfl (run_loadVar_row _ _ 25 _ _ (0, 0) _ Ha2.out Tryz.underlying25 rfl histSize) (run_loadVar_row _ _ 38 _ _ (0, 0) _ Ha3.out Tryz.underlying38 rfl placeSize2)) rfl ?_
  have hfz9 := Hfz.out
  rw [hwz] at hfz9
  exact ⟨⟨_, rfl, hvz9⟩, hfz9⟩

end Go.Proofs.YtnffjafddbbjaaaGreatDoor
