/-
  The contract of the reference's ParseTable.
-/
import Derived.Test.YtnffjafddbbjaaaGreatDoorTTabV
import Derived.Test.YtnffjafddbbjaaaGreatDoorJ11
import Derived.Test.YtnffjafddbbjaaaGreatDoorJ3
import Derived.Test.YtnffjafddbbjaaaGreatDoorLBack
import Derived.Test.YtnffjafddbbjaaaGreatDoorLCheck
namespace Go.Proofs.YtnffjafddbbjaaaGreatDoor
open Go.RowKit

theorem tabW_lit : strOf tabW = ⟨#[116, 97, 98, 108, 101]⟩ := rfl
theorem refWordTab (p : Nat) (s : ByteArray) (c : Sc) (w : World) (h : RSc w p s c) (hok : ScOk s c) (hs : s.size ≤ 1000000000) : Calls Tryz.prog 40 #[.pointer (some ⟨p, 0, none⟩), .string ⟨#[116, 97, 98, 108, 101]⟩] w fun r w' => r = .returned (.bool (scWordOk s (strOf tabW) c)) ∧ RSc w' p s (scWord s (strOf tabW) c) ∧ Fr w w' (fun k => k = p) :=
  refWord_any p s (strOf tabW) c w h hok hs (by rw [tabW_size]; decide)
set_option maxRecDepth 4000 in
set_option maxHeartbeats 6400000 in
theorem refParseTable_any (s : ByteArray) (w : World) (hs : s.size ≤ 100000) : Calls Tryz.prog 18 #[.string s] w fun r w' =>
    (∃ v', r = .returned (.tuple #[histV (parseTab s).n v', placeR (parseTab s), .int .i64 ((parseTab s).err : Int)]) ∧ RdV w' v' (parseTab s).evs) ∧ Fr w w' (fun _ => False) := by
  obtain ⟨R, hR⟩ : ∃ R, R = parseTab s := ⟨_, rfl⟩
  rw [← hR]
  have hs9 : s.size ≤ 1000000000 := by omega
  have Hs9 : Hid _ := hs9
  have Hs : Hid _ := hs
  -- the head
  obtain ⟨c1, hc1⟩ : ∃ x, x = scWord s (strOf tabW) ⟨0, 1, 1, 0⟩ := ⟨_, rfl⟩
  obtain ⟨c2, hc2⟩ : ∃ x, x = scByte s 32 c1 := ⟨_, rfl⟩
  obtain ⟨n, hn⟩ : ∃ x, x = scNumVal s maxN c2 := ⟨_, rfl⟩
  obtain ⟨c3, hc3⟩ : ∃ x, x = scNum s maxN c2 := ⟨_, rfl⟩
  obtain ⟨c4, hc4⟩ : ∃ x, x = scByte s 10 c3 := ⟨_, rfl⟩
  have ok0 := scNew_ok s
  have ok1 : ScOk s c1 := by rw [hc1]; exact scWord_ok ok0 _
  have ok2 : ScOk s c2 := by rw [hc2]; exact scByte_ok ok1 _
  have ok3 : ScOk s c3 := by rw [hc3]; exact scNum_ok ok2 _
  have Ok4 : Hid (ScOk s c4) := by show ScOk _ _; rw [hc4]; exact scByte_ok ok3 _
  have Hpar : Hid (R = parseLfs s n (s.size + 1) [] c4) := by show _ = _; rw [hR, hn, hc4, hc3, hc2, hc1]; rfl
  have HnN : Hid (n ≤ 4294967296) := by show _ ≤ _; rw [hn]; exact scNumVal_le s maxN c2
  obtain ⟨O1, hO1⟩ : ∃ x, x = scWordOk s (strOf tabW) ⟨0, 1, 1, 0⟩ := ⟨_, rfl⟩
  obtain ⟨O2, hO2⟩ : ∃ x, x = scByteOk s 32 c1 := ⟨_, rfl⟩
  obtain ⟨O4, hO4⟩ : ∃ x, x = scByteOk s 10 c3 := ⟨_, rfl⟩
  have k1 := fun q z hz => refWordTab q s ⟨0, 1, 1, 0⟩ z hz ok0 hs9
  have k2 := fun q z hz => refB 32 32 rfl q s c1 z hz ok1 hs9
  have k3 := fun q z hz => refNumN q s c2 z hz ok2 hs9
  have k4 := fun q z hz => refB 10 10 rfl q s c3 z hz ok3 hs9
  rw [← hO1, ← hc1] at k1
  rw [← hO2, ← hc2] at k2
  rw [← hn, ← hc3] at k3
  rw [← hO4, ← hc4] at k4
  clear hR hc1 hc2 hn hc3 hc4 hO1 hO2 hO4 ok0 ok1 ok2 ok3
  go_enter Tryz.func18, Tryz.ntmps18
  go_upto_region 1 with fail
  obtain ⟨q2, hq2⟩ : ∃ q, q = w.heap.size := ⟨_, rfl⟩
  obtain ⟨q3, hq3⟩ : ∃ q, q = q2 + 1 := ⟨_, rfl⟩
  obtain ⟨w1, hw1⟩ : ∃ x, x = (w.alloc (.cells #[.int .u64 0, .slice none 0 0] 25)).alloc (.cells #[.int .i64 0, .int .i64 0] 38) := ⟨_, rfl⟩
  rw [← hw1, ← hq2, ← hq3]
  have hQ2 : w1.heap[q2]? = some (.cells #[.int .u64 0, .slice none 0 0] 25 (0, 0)) := by rw [hw1, hq2]; exact blk_alloc _ (heap_alloc_new _ _)
  have hQ3 : w1.heap[q3]? = some (.cells #[.int .i64 0, .int .i64 0] 38 (0, 0)) := by
    have h0 := heap_alloc_new (w.alloc (.cells #[.int .u64 0, .slice none 0 0] 25)) (.cells #[.int .i64 0, .int .i64 0] 38)
    rw [hw1, hq3, hq2]
    simpa using h0
  have Hw1 : Hid (Fr w w1 (fun _ => False)) := by show Fr _ _ _; rw [hw1]; exact ((Fr.refl _ _).alloc _).alloc _
  have Hqq : Hid (w.heap.size ≤ q2 ∧ q2 < q3) := ⟨by omega, by omega⟩
  have HQ2 : Hid _ := hQ2
  have HQ3 : Hid _ := hQ3
  clear hq2 hq3 hw1 hQ2 hQ3
  go_wp2_with fail
  refine (refNew_any s w1).mono ?_
  rintro r w2 ⟨p, rfl, hp, r2, f2⟩
  have Hr2 : Hid (RSc w2 p s ⟨0, 1, 1, 0⟩) := r2
  have Hp : Hid (q3 < p) := by show _ < _; have := lt_of_block HQ3.out; omega
  have HB2 : Hid (w2.heap[q2]? = some (.cells #[.int .u64 0, .slice none 0 0] 25 (0, 0)) ∧ w2.heap[q3]? = some (.cells #[.int .i64 0, .int .i64 0] 38 (0, 0))) := ⟨f2.kept HQ2.out (fun h => h), f2.kept HQ3.out (fun h => h)⟩
  have Hf2 : Hid (Fr w w2 (fun _ => False)) := Hw1.out.none f2
  clear r2 f2 hp HQ2 HQ3
  have k1' := k1 p w2 Hr2.out
  clear k1
  go_wp2_with fail
  refine k1'.mono ?_
  rintro r w3 ⟨rfl, r3, f3⟩
  have Hr3 : Hid (RSc w3 p s c1) := r3
  have HB3 : Hid (w3.heap[q2]? = some (.cells #[.int .u64 0, .slice none 0 0] 25 (0, 0)) ∧ w3.heap[q3]? = some (.cells #[.int .i64 0, .int .i64 0] 38 (0, 0))) := ⟨f3.kept HB2.out.1 (fun h => by have := Hp.out; have := Hqq.out; omega), f3.kept HB2.out.2 (fun h => by have := Hp.out; omega)⟩
  have Hf3 : Hid (Fr w w3 (fun _ => False)) := Hf2.out.newer f3 (fun k hk => by have := Hp.out; have := Hqq.out; omega)
  clear k1' r3 f3
  have k2' := k2 p w3 Hr3.out
  clear k2
  go_wp2_with fail
  refine k2'.mono ?_
  rintro r w4 ⟨rfl, r4, f4⟩
  have Hr4 : Hid (RSc w4 p s c2) := r4
  have HB4 : Hid (w4.heap[q2]? = some (.cells #[.int .u64 0, .slice none 0 0] 25 (0, 0)) ∧ w4.heap[q3]? = some (.cells #[.int .i64 0, .int .i64 0] 38 (0, 0))) := ⟨f4.kept HB3.out.1 (fun h => by have := Hp.out; have := Hqq.out; omega), f4.kept HB3.out.2 (fun h => by have := Hp.out; omega)⟩
  have Hf4 : Hid (Fr w w4 (fun _ => False)) := Hf3.out.newer f4 (fun k hk => by have := Hp.out; have := Hqq.out; omega)
  clear k2' r4 f4
  have k3' := k3 p w4 Hr4.out
  clear k3
  go_wp2_with fail
  refine k3'.mono ?_
  rintro r w5 ⟨rfl, r5, f5⟩
  have HB5 : Hid (w5.heap[q2]? = some (.cells #[.int .u64 0, .slice none 0 0] 25 (0, 0)) ∧ w5.heap[q3]? = some (.cells #[.int .i64 0, .int .i64 0] 38 (0, 0))) := ⟨f5.kept HB4.out.1 (fun h => by have := Hp.out; have := Hqq.out; omega), f5.kept HB4.out.2 (fun h => by have := Hp.out; omega)⟩
  have Hf5 : Hid (Fr w w5 (fun _ => False)) := Hf4.out.newer f5 (fun k hk => by have := Hp.out; have := Hqq.out; omega)
  have Hr5 : Hid (RSc w5 p s c3) := r5
  clear k3' r5 f5
  have k4' := k4 p w5 Hr5.out
  clear k4
  go_wp2_with fail
  refine k4'.mono ?_
  rintro r w7 ⟨rfl, r7, f7⟩
  have Hr7 : Hid (RSc w7 p s c4) := r7
  have HB7 : Hid (w7.heap[q2]? = some (.cells #[.int .u64 0, .slice none 0 0] 25 (0, 0)) ∧ w7.heap[q3]? = some (.cells #[.int .i64 0, .int .i64 0] 38 (0, 0))) := ⟨f7.kept HB5.out.1 (fun h => by have := Hp.out; have := Hqq.out; omega), f7.kept HB5.out.2 (fun h => by have := Hp.out; omega)⟩
  have Hf7 : Hid (Fr w w7 (fun _ => False)) := Hf5.out.newer f7 (fun k hk => by have := Hp.out; have := Hqq.out; omega)
  clear k4' r7 f7
  go_wp2_with fail
  go_loopg [7] (s.size + 1) (fun g U wr => ∃ (c : Sc) (evs : List Lf) (v : Value), U = v ∧ s.size - c.pos < g ∧ parseLfs s n g evs c = R ∧ RSc wr p s c ∧ ScOk s c ∧ wr.heap[q2]? = some (.cells #[.int .u64 0, .slice none 0 0] 25 (0, 0)) ∧ wr.heap[q3]? = some (.cells #[.int .i64 0, .int .i64 0] 38 (0, 0)) ∧ OwnL wr v evs ∧ (∀ k, v.ownBlock = some k → p < k) ∧ evs.length ≤ c.pos ∧ (∀ x ∈ evs, LfFit x) ∧ Fr w wr (fun _ => False))
  case atStart => exact ⟨c4, [], _, rfl, by omega, Hpar.out.symm, Hr7.out, Ok4.out, HB7.out.1, HB7.out.2, OwnL.nil _, fun k hk => (by simp [Value.ownBlock] at hk), by simp, fun x hx => (by simp at hx), Hf7.out⟩
  case round =>
    obtain ⟨c, evs, v, rfl, hg, hpar, hr, hok, hb2, hb3, hov, hvn, hel, hfit, hf⟩ := hrel
    obtain ⟨k, rfl⟩ : ∃ k, gk = k + 1 := ⟨gk - 1, by omega⟩
    have Hg : Hid _ := hg
    have Hpe : Hid (parseLfs s n (k + 1) evs c = R) := hpar
    have Hr : Hid (RSc wr p s c) := hr
    have Hok : Hid (ScOk s c) := hok
    have Hb : Hid (wr.heap[q2]? = some (.cells #[.int .u64 0, .slice none 0 0] 25 (0, 0)) ∧ wr.heap[q3]? = some (.cells #[.int .i64 0, .int .i64 0] 38 (0, 0))) := ⟨hb2, hb3⟩
    have Hov : Hid (OwnL wr u7 evs) := hov
    have Hvn : Hid (∀ k, u7.ownBlock = some k → p < k) := hvn
    have Hel : Hid (evs.length ≤ c.pos) := hel
    have Hfit : Hid _ := hfit
    have Hf : Hid (Fr w wr (fun _ => False)) := hf
    clear hg hpar hr hok hb2 hb3 hov hvn hel hfit hf
    obtain ⟨a0, c0, hv0, -⟩ := Hov.out.rd.form
    obtain ⟨m0, hm0⟩ : ∃ m, m = evs.length := ⟨_, rfl⟩
    rw [← hm0] at hv0
    subst hv0
    clear hm0
    obtain ⟨d0, d1, d2, d3, d4⟩ := five_cells Hr.out
    by_cases he : c.err = 0
    case neg =>
      have e1 : ((c.err : Int) == 0) = false := by rw [beq_eq_false_iff_ne]; omega
      have e2 : (c.err == 0) = false := by rw [beq_eq_false_iff_ne]; exact he
      have HRR : Hid (R = ⟨0, [], c.line, c.col, c.err⟩) := by show _ = _; rw [← Hpe.out, tparse_stop he]
      clear he
      go_upto_region 19 with fail
      clear d0 d1 d2 d3 d4 e1 e2
      have fd : Fr wr wr.drew (fun _ => False) := (Fr.refl _ _).drew
      obtain ⟨xd, hxd⟩ : ∃ x, x = wr.drew := ⟨_, rfl⟩
      have Hrd : Hid (RSc xd p s c) := by show RSc _ _ _ _; rw [hxd]; exact fd.kept Hr.out (fun h => h)
      have Hbd : Hid (xd.heap[q2]? = some (.cells #[.int .u64 0, .slice none 0 0] 25 (0, 0)) ∧ xd.heap[q3]? = some (.cells #[.int .i64 0, .int .i64 0] 38 (0, 0))) := by rw [hxd]; exact ⟨fd.kept Hb.out.1 (fun h => h), fd.kept Hb.out.2 (fun h => h)⟩
      have Hfd : Hid (Fr w xd (fun _ => False)) := by show Fr _ _ _; rw [hxd]; exact Hf.out.none fd
      have hpn : p ≠ q2 ∧ p ≠ q3 := ⟨by have := Hp.out; have := Hqq.out; omega, by have := Hp.out; omega⟩
      have cA : ∀ z, Fr xd z (fun k => k = q2 ∨ k = q3) → z.cell? ⟨p, 2, none⟩ = some (.int .i64 (c.line : Int)) := fun z hz => (five_cells (hz.kept Hrd.out (fun h => h.elim hpn.1 hpn.2))).2.2.1
      have cB : ∀ z, Fr xd z (fun k => k = q2 ∨ k = q3) → z.cell? ⟨p, 3, none⟩ = some (.int .i64 (c.col : Int)) := fun z hz => (five_cells (hz.kept Hrd.out (fun h => h.elim hpn.1 hpn.2))).2.2.2.1
      have cC : ∀ z, Fr xd z (fun k => k = q2 ∨ k = q3) → z.cell? ⟨p, 4, none⟩ = some (.int .i64 (c.err : Int)) := fun z hz => (five_cells (hz.kept Hrd.out (fun h => h.elim hpn.1 hpn.2))).2.2.2.2
      rw [hxd] at cA cB cC
      refine wp_region_tree (fun k => k = q2 ∨ k = q3) (.take 0 (.take 1 (.take 2 (.take 3 (.take 4 (.take 5 (.take 6 (.take 7 (.take 8 (.one 9 (.one 10 (.take 11 .nil)))))))))))) (by kernel_rfl) (by kernel_rfl) (by decide) (by kernel_rfl) ?_
      rw [← hxd] at cA cB cC ⊢
      clear fd hxd hpn
      iterate 9 (refine wpT_take (v := ?_) rfl rfl (fun x hx => ?_) ?_; rotate_left; (focus (go_simp; with_reducible rfl)); simp only [Act.put, List.setIfInBounds_toArray, List.set_cons_zero, List.set_cons_succ])
      clear cA cB cC
      have hne : q2 ≠ q3 := by have := Hqq.out; omega
      have hne' : q3 ≠ q2 := fun h => hne h.symm
      obtain ⟨z0, z1⟩ : xd.cell? ⟨q2, 0, none⟩ = some (.int .u64 0) ∧ xd.cell? ⟨q2, 1, none⟩ = some (.slice none 0 0) := ⟨two_cell0 (Hbd.out.1), two_cell1 (Hbd.out.1)⟩
      have f20 := two_free (Hbd.out.1) 0
      have f21 := two_free (Hbd.out.1) 1
      refine wpT_one rfl rfl (fun K hK => ?_)
      go_simp
      refine hK _ _ (((fr_put xd q2 _ _).trans (fr_put _ q2 _ _) (fun _ _ h => h)).mono (fun _ _ h => .inl h)) ?_
      clear hK K z0 z1 f20 f21
      obtain ⟨y1, hy1⟩ : ∃ x, x = (xd.setCell ⟨q2, 0, none⟩ (.int .u64 0)).setCell ⟨q2, 1, none⟩ (.slice none 0 0) := ⟨_, rfl⟩
      have g1 : Fr xd y1 (fun k => k = q2) := by rw [hy1]; exact (fr_put _ _ _ _).trans (fr_put _ _ _ _) (fun _ _ h => h)
      have Hy2 : Hid (y1.heap[q2]? = some (.cells #[.int .u64 0, .slice none 0 0] 25 (0, 0))) := by show _ = _; rw [hy1]; exact two_set1 (two_set0 (Hbd.out.1))
      have hy3 : y1.heap[q3]? = some (.cells #[.int .i64 0, .int .i64 0] 38 (0, 0)) := g1.kept (Hbd.out.2) hne'
      have Hfy : Hid (Fr w y1 (fun _ => False)) := Hfd.out.newer g1 (fun k hk => by have := Hqq.out; omega)
      rw [← hy1]
      clear g1 hy1
      obtain ⟨z0, z1⟩ : y1.cell? ⟨q3, 0, none⟩ = some (.int .i64 0) ∧ y1.cell? ⟨q3, 1, none⟩ = some (.int .i64 0) := ⟨two_cell0 hy3, two_cell1 hy3⟩
      have f30 := two_free hy3 0
      have f31 := two_free hy3 1
      refine wpT_one rfl rfl (fun K hK => ?_)
      go_simp
      refine hK _ _ (((fr_put y1 q3 _ _).trans (fr_put _ q3 _ _) (fun _ _ h => h)).mono (fun _ _ h => .inr h)) ?_
      clear hK K z0 z1 f30 f31
      obtain ⟨y2, hy2⟩ : ∃ x, x = (y1.setCell ⟨q3, 0, none⟩ (.int .i64 (c.line : Int))).setCell ⟨q3, 1, none⟩ (.int .i64 (c.col : Int)) := ⟨_, rfl⟩
      have g2 : Fr y1 y2 (fun k => k = q3) := by rw [hy2]; exact (fr_put _ _ _ _).trans (fr_put _ _ _ _) (fun _ _ h => h)
      have Hz2 : Hid (y2.heap[q2]? = some (.cells #[.int .u64 0, .slice none 0 0] 25 (0, 0))) := g2.kept Hy2.out hne
      have Hz3 : Hid (y2.heap[q3]? = some (.cells #[.int .i64 (c.line : Int), .int .i64 (c.col : Int)] 38 (0, 0))) := by show _ = _; rw [hy2]; exact two_set1 (two_set0 hy3)
      have Hfz : Hid (Fr w y2 (fun _ => False)) := Hfy.out.newer g2 (fun k hk => by have := Hqq.out; omega)
      rw [← hy2]
      clear g2 hy2 hy3 hne hne'
      iterate 1 (refine wpT_take (v := ?_) rfl rfl (fun x hx => ?_) ?_; rotate_left; (focus (go_simp; with_reducible rfl)); simp only [Act.put, List.setIfInBounds_toArray, List.set_cons_zero, List.set_cons_succ])
      unfold wpT
      go_wp2
      obtain rfl := HRR.out
      refine bodyPost_ret (results_cct rfl rfl rfl (run_loadVar_row _ _ 25 _ _ (0, 0) _ Hz2.out Tryz.underlying25 rfl histSize) (run_loadVar_row _ _ 38 _ _ (0, 0) _ Hz3.out Tryz.underlying38 rfl placeSize2)) rfl ?_
      exact ⟨⟨_, rfl, RdV.nil _⟩, Hfz.out⟩
    have e1 : ((c.err : Int) == 0) = true := by rw [beq_iff_eq]; omega
    have e2 : (c.err == 0) = true := by rw [beq_iff_eq]; exact he
    have He : Hid _ := he
    rw [he] at d4
    have d4' : wr.cell? ⟨p, 4, none⟩ = some (.int .i64 0) := d4
    have kn := refNext_any p s c wr Hr.out
    clear d4 he
    by_cases hend : s.size ≤ c.pos
    · rw [scNext_end hend] at kn
      have HRR : Hid (R = endT n evs) := by show _ = _; rw [← Hpe.out, tparse_end He.out hend]
      clear hend
      dsimp only at kn
      go_wp2_with fail
      refine kn.mono ?_
      rintro r x0 ⟨rfl, g⟩
      have Hb0 : Hid (x0.heap[q2]? = some (.cells #[.int .u64 0, .slice none 0 0] 25 (0, 0)) ∧ x0.heap[q3]? = some (.cells #[.int .i64 0, .int .i64 0] 38 (0, 0))) := ⟨g.kept Hb.out.1 (fun h => h), g.kept Hb.out.2 (fun h => h)⟩
      have Hox0 : Hid (OwnL x0 (.slice a0 m0 c0) evs) := Hov.out.frame g (fun _ _ h => h)
      have Hf0 : Hid (Fr w x0 (fun _ => False)) := Hf.out.none g
      have Hp0 : Hid (p < x0.heap.size) := by have := lt_of_block (g.kept Hr.out (fun h => h)); exact this
      clear kn g d0 d1 d2 d3 d4' e1 e2
      have kb := refBack_any n _ evs x0 Hox0.out.rd (by have h1 := Hel.out; have h2 := Hok.out.1; have h3 := Hs.out; omega) Hfit.out
      obtain ⟨⟨Bn, Be, Bx⟩, hB⟩ : ∃ B, B = backF n evs := ⟨_, rfl⟩
      rw [← hB] at kb
      have HRB : Hid (R = ⟨Bn, Be, 0, 0, 0⟩) := by show _ = _; rw [HRR.out]; unfold endT; rw [← hB]
      unfold histV at kb
      dsimp only at kb
      clear hB
      go_wp2_with fail
      refine kb.mono ?_
      rintro r xb ⟨⟨vb, rfl, hrb⟩, g⟩
      obtain ⟨ab, cb, hvb, -⟩ := hrb.form
      obtain ⟨mb, hmb⟩ : ∃ m, m = Be.length := ⟨_, rfl⟩
      rw [← hmb] at hvb
      subst hvb
      have Hbb : Hid (xb.heap[q2]? = some (.cells #[.int .u64 0, .slice none 0 0] 25 (0, 0)) ∧ xb.heap[q3]? = some (.cells #[.int .i64 0, .int .i64 0] 38 (0, 0))) := ⟨g.kept Hb0.out.1 (fun h => h), g.kept Hb0.out.2 (fun h => h)⟩
      have Hrb : Hid (RdV xb (.slice ab mb cb) Be) := hrb
      have Hfb : Hid (Fr w xb (fun _ => False)) := Hf0.out.none g
      have Hpb : Hid (p < xb.heap.size) := by have h1 := g.size; have h2 := Hp0.out; show _ < _; omega
      clear kb g hrb hmb
      go_upto_region 11 with fail
      obtain ⟨q10, hq10⟩ : ∃ q, q = xb.heap.size := ⟨_, rfl⟩
      obtain ⟨x1, hx1⟩ : ∃ x, x = xb.alloc (.cells #[.int .u64 (Bn : Int), .slice ab mb cb] 25) := ⟨_, rfl⟩
      rw [← hx1, ← hq10]
      have g : Fr xb x1 (fun _ => False) := by rw [hx1]; exact (Fr.refl _ _).alloc _
      have Hbx : Hid (x1.heap[q2]? = some (.cells #[.int .u64 0, .slice none 0 0] 25 (0, 0)) ∧ x1.heap[q3]? = some (.cells #[.int .i64 0, .int .i64 0] 38 (0, 0)) ∧ x1.heap[q10]? = some (.cells #[.int .u64 (Bn : Int), .slice ab mb cb] 25 (0, 0))) := ⟨g.kept Hbb.out.1 (fun h => h), g.kept Hbb.out.2 (fun h => h), by rw [hx1, hq10]; exact heap_alloc_new _ _⟩
      have Hrx : Hid (RdV x1 (.slice ab mb cb) Be) := Hrb.out.keep g
      have Hfx : Hid (Fr w x1 (fun _ => False)) := Hfb.out.none g
      have Hq10 : Hid (q3 < q10) := by have h1 := Hp.out; have h2 := Hpb.out; show _ < _; omega
      clear g hx1 hq10
      obtain ⟨y0, y1⟩ : x1.cell? ⟨q10, 0, none⟩ = some (.int .u64 (Bn : Int)) ∧ x1.cell? ⟨q10, 1, none⟩ = some (.slice ab mb cb) := ⟨two_cell0 Hbx.out.2.2, two_cell1 Hbx.out.2.2⟩
      obtain ⟨z0, z1⟩ : x1.cell? ⟨q2, 0, none⟩ = some (.int .u64 0) ∧ x1.cell? ⟨q2, 1, none⟩ = some (.slice none 0 0) := ⟨two_cell0 Hbx.out.1, two_cell1 Hbx.out.1⟩
      obtain ⟨u0, u1⟩ : x1.cell? ⟨q3, 0, none⟩ = some (.int .i64 0) ∧ x1.cell? ⟨q3, 1, none⟩ = some (.int .i64 0) := ⟨two_cell0 Hbx.out.2.1, two_cell1 Hbx.out.2.1⟩
      have f20 := two_free Hbx.out.1 0
      have f21 := two_free Hbx.out.1 1
      have f30 := two_free Hbx.out.2.1 0
      have f31 := two_free Hbx.out.2.1 1
      have hne : q2 ≠ q3 := by have := Hqq.out; omega
      have hne' : q3 ≠ q2 := fun h => hne h.symm
      obtain ⟨wz, hwz⟩ : ∃ x, x = (((x1.setCell ⟨q2, 0, none⟩ (.int .u64 (Bn : Int))).setCell ⟨q2, 1, none⟩ (.slice ab mb cb)).setCell ⟨q3, 0, none⟩ (.int .i64 0)).setCell ⟨q3, 1, none⟩ (.int .i64 0) := ⟨_, rfl⟩
      have hfz : Fr x1 wz (fun k => k = q2 ∨ k = q3) := by
        rw [hwz]
        exact ((((fr_put x1 q2 _ _).trans (fr_put _ q2 _ _) (fun _ _ h => h)).mono (fun _ _ h => .inl h)).trans ((fr_put _ q3 _ _).trans (fr_put _ q3 _ _) (fun _ _ h => h)) (fun _ _ h => .inr h))
      have Hz2 : Hid (wz.heap[q2]? = some (.cells #[.int .u64 (Bn : Int), .slice ab mb cb] 25 (0, 0))) := by
        show _ = _
        rw [hwz]
        exact blk_set_other (blk_set_other (two_set1 (two_set0 Hbx.out.1)) hne) hne
      have Hz3 : Hid (wz.heap[q3]? = some (.cells #[.int .i64 0, .int .i64 0] 38 (0, 0))) := by
        show _ = _
        rw [hwz]
        exact two_set1 (two_set0 (blk_set_other (blk_set_other Hbx.out.2.1 hne') hne'))
      have Hfz : Hid (Fr w wz (fun _ => False)) := Hfx.out.newer hfz (fun k hk => by have h1 := Hqq.out; rcases hk with h | h <;> omega)
      have Hrz : Hid (RdV wz (.slice ab mb cb) Be) := Hrx.out.frame hfz (fun hl k hk h => by
        rcases h with h | h
        · exact rdV_apart Hrx.out hl Hbx.out.1 (by rw [← h]; exact hk)
        · exact rdV_apart Hrx.out hl Hbx.out.2.1 (by rw [← h]; exact hk))
      clear hfz
      have hz2 := Hz2.out
      have hz3 := Hz3.out
      rw [hwz] at hz2 hz3
      have Ha2 : Hid _ := hz2
      have Ha3 : Hid _ := hz3
      clear hz2 hz3
      go_wp2
      obtain rfl := HRB.out
      refine bodyPost_ret (results_cct rfl rfl rfl (run_loadVar_row _ _ 25 _ _ (0, 0) _ Ha2.out Tryz.underlying25 rfl histSize) (run_loadVar_row _ _ 38 _ _ (0, 0) _ Ha3.out Tryz.underlying38 rfl placeSize2)) rfl ?_
      rw [← hwz]
      exact ⟨⟨_, rfl, Hrz.out⟩, Hfz.out⟩
    have Hend : Hid (c.pos < s.size) := by show _ < _; omega
    rw [scNext_in He.out Hend.out] at kn
    clear hend
    obtain ⟨NB, hNB⟩ : ∃ x, x = chAt s c.pos := ⟨_, rfl⟩
    rw [← hNB] at kn
    dsimp only at kn
    clear hNB
    go_wp2_with fail
    refine kn.mono ?_
    rintro r x1 ⟨rfl, g⟩
    have Hr1 : Hid (RSc x1 p s c) := g.kept Hr.out (fun h => h)
    have Hb1 : Hid (x1.heap[q2]? = some (.cells #[.int .u64 0, .slice none 0 0] 25 (0, 0)) ∧ x1.heap[q3]? = some (.cells #[.int .i64 0, .int .i64 0] 38 (0, 0))) := ⟨g.kept Hb.out.1 (fun h => h), g.kept Hb.out.2 (fun h => h)⟩
    have Hov1 : Hid (OwnL x1 (.slice a0 m0 c0) evs) := Hov.out.frame g (fun _ _ h => h)
    have Hf1 : Hid (Fr w x1 (fun _ => False)) := Hf.out.none g
    clear kn g d0 d1 d2 d3 d4' e1 e2 Hr Hb Hov Hf
    obtain ⟨-, -, d2, d3, -⟩ := five_cells Hr1.out
    go_upto_region 13 with fail
    obtain ⟨q9, hq9⟩ : ∃ q, q = x1.heap.size := ⟨_, rfl⟩
    obtain ⟨x2, hx2⟩ : ∃ x, x = x1.alloc (.cells #[.int .i64 (c.line : Int), .int .i64 (c.col : Int)] 38) := ⟨_, rfl⟩
    rw [← hx2, ← hq9]
    have g : Fr x1 x2 (fun _ => False) := by rw [hx2]; exact (Fr.refl _ _).alloc _
    have Hq9 : Hid (x2.heap[q9]? = some (.cells #[.int .i64 (c.line : Int), .int .i64 (c.col : Int)] 38 (0, 0))) := by show _ = _; rw [hx2, hq9]; exact heap_alloc_new _ _
    have Hq69 : Hid (p < q9 ∧ (∀ k, (Value.slice a0 m0 c0).ownBlock = some k → k < q9)) := ⟨by have := lt_of_block Hr1.out; omega, fun k hk => by have := Hov1.out.lt k hk; omega⟩
    have Hr2' : Hid (RSc x2 p s c) := g.kept Hr1.out (fun h => h)
    have Hb2' : Hid (x2.heap[q2]? = some (.cells #[.int .u64 0, .slice none 0 0] 25 (0, 0)) ∧ x2.heap[q3]? = some (.cells #[.int .i64 0, .int .i64 0] 38 (0, 0))) := ⟨g.kept Hb1.out.1 (fun h => h), g.kept Hb1.out.2 (fun h => h)⟩
    have Hov2 : Hid (OwnL x2 (.slice a0 m0 c0) evs) := Hov1.out.frame g (fun _ _ h => h)
    have Hf2' : Hid (Fr w x2 (fun _ => False)) := Hf1.out.none g
    clear g hq9 hx2 d2 d3 Hr1 Hb1 Hov1 Hf1
    obtain ⟨E, hE⟩ : ∃ x, x = lfVal s c := ⟨_, rfl⟩
    obtain ⟨c', hc'⟩ : ∃ x, x = lfEnd s c := ⟨_, rfl⟩
    have ke := refLife_any p s c x2 Hr2'.out Hok.out Hs9.out
    rw [← hE, ← hc'] at ke
    have HE : Hid _ := hE
    have Hc' : Hid _ := hc'
    have HEf : Hid (LfFit E) := by show LfFit _; rw [hE]; exact lfVal_fit s c
    clear hE hc'
    obtain ⟨⟨u, vv⟩, fr, tt⟩ := E
    unfold lifeV at ke
    dsimp only at ke
    go_wp2_with fail
    refine ke.mono ?_
    rintro r x3 ⟨rfl, r3, g⟩
    have Hr3' : Hid (RSc x3 p s c') := r3
    have Hpo : Hid (q2 ≠ p ∧ q3 ≠ p ∧ q9 ≠ p) := ⟨by have := Hp.out; have := Hqq.out; omega, by have := Hp.out; omega, by have := Hq69.out.1; omega⟩
    have Hb3' : Hid (x3.heap[q2]? = some (.cells #[.int .u64 0, .slice none 0 0] 25 (0, 0)) ∧ x3.heap[q3]? = some (.cells #[.int .i64 0, .int .i64 0] 38 (0, 0)) ∧ x3.heap[q9]? = some (.cells #[.int .i64 (c.line : Int), .int .i64 (c.col : Int)] 38 (0, 0))) := ⟨g.kept Hb2'.out.1 Hpo.out.1, g.kept Hb2'.out.2 Hpo.out.2.1, g.kept Hq9.out Hpo.out.2.2⟩
    have Hov3 : Hid (OwnL x3 (.slice a0 m0 c0) evs) := Hov2.out.frame g (fun k hk h => by have h1 := Hvn.out k hk; omega)
    have Hf3' : Hid (Fr w x3 (fun _ => False)) := Hf2'.out.newer g (fun k hk => by have := Hp.out; have := Hqq.out; omega)
    clear ke r3 g Hr2' Hb2' Hov2 Hf2' Hq9
    go_upto_region 14 with fail
    obtain ⟨q10, hq10⟩ : ∃ q, q = x3.heap.size := ⟨_, rfl⟩
    obtain ⟨x4, hx4⟩ : ∃ x, x = x3.alloc (.cells #[.int .u32 (u : Int), .int .u32 (vv : Int), .int .i64 fr, .int .i64 tt] 82) := ⟨_, rfl⟩
    rw [← hx4, ← hq10]
    have g : Fr x3 x4 (fun _ => False) := by rw [hx4]; exact (Fr.refl _ _).alloc _
    have Hq10 : Hid (x4.heap[q10]? = some (.cells #[.int .u32 (u : Int), .int .u32 (vv : Int), .int .i64 fr, .int .i64 tt] 82 (0, 0))) := by show _ = _; rw [hx4, hq10]; exact heap_alloc_new _ _
    have Hr4' : Hid (RSc x4 p s c') := g.kept Hr3'.out (fun h => h)
    have Hb4' : Hid (x4.heap[q2]? = some (.cells #[.int .u64 0, .slice none 0 0] 25 (0, 0)) ∧ x4.heap[q3]? = some (.cells #[.int .i64 0, .int .i64 0] 38 (0, 0)) ∧ x4.heap[q9]? = some (.cells #[.int .i64 (c.line : Int), .int .i64 (c.col : Int)] 38 (0, 0))) := ⟨g.kept Hb3'.out.1 (fun h => h), g.kept Hb3'.out.2.1 (fun h => h), g.kept Hb3'.out.2.2 (fun h => h)⟩
    have Hov4 : Hid (OwnL x4 (.slice a0 m0 c0) evs) := Hov3.out.frame g (fun _ _ h => h)
    have Hf4' : Hid (Fr w x4 (fun _ => False)) := Hf3'.out.none g
    have Hok' : Hid (ScOk s c') := by show ScOk _ _; rw [Hc'.out]; exact lfEnd_ok Hok.out
    clear g hq10 hx4 Hr3' Hb3' Hov3 Hf3'
    obtain ⟨-, -, -, -, d4⟩ := five_cells Hr4'.out
    by_cases he : c'.err = 0
    case neg =>
      have e1 : ((c'.err : Int) != 0) = true := by rw [bne_iff_ne]; omega
      have e1' : ((c'.err : Int) == 0) = false := by rw [beq_eq_false_iff_ne]; omega
      have e2 : (c'.err == 0) = false := by rw [beq_eq_false_iff_ne]; exact he
      have HRR : Hid (R = ⟨0, [], c'.line, c'.col, c'.err⟩) := by show _ = _; rw [← Hpe.out, tparse_err He.out Hend.out (by rw [← Hc'.out]; exact he), ← Hc'.out]
      have Hbz : Hid (x4.heap[q2]? = some (.cells #[.int .u64 0, .slice none 0 0] 25 (0, 0)) ∧ x4.heap[q3]? = some (.cells #[.int .i64 0, .int .i64 0] 38 (0, 0))) := ⟨Hb4'.out.1, Hb4'.out.2.1⟩
      clear he
      go_upto_region 19 with fail
      clear d4 e1 e1' e2
      have fd : Fr x4 x4.drew (fun _ => False) := (Fr.refl _ _).drew
      obtain ⟨xd, hxd⟩ : ∃ x, x = x4.drew := ⟨_, rfl⟩
      have Hrd : Hid (RSc xd p s c') := by show RSc _ _ _ _; rw [hxd]; exact fd.kept Hr4'.out (fun h => h)
      have Hbd : Hid (xd.heap[q2]? = some (.cells #[.int .u64 0, .slice none 0 0] 25 (0, 0)) ∧ xd.heap[q3]? = some (.cells #[.int .i64 0, .int .i64 0] 38 (0, 0))) := by rw [hxd]; exact ⟨fd.kept Hbz.out.1 (fun h => h), fd.kept Hbz.out.2 (fun h => h)⟩
      have Hfd : Hid (Fr w xd (fun _ => False)) := by show Fr _ _ _; rw [hxd]; exact Hf4'.out.none fd
      have hpn : p ≠ q2 ∧ p ≠ q3 := ⟨by have := Hp.out; have := Hqq.out; omega, by have := Hp.out; omega⟩
      have cA : ∀ z, Fr xd z (fun k => k = q2 ∨ k = q3) → z.cell? ⟨p, 2, none⟩ = some (.int .i64 (c'.line : Int)) := fun z hz => (five_cells (hz.kept Hrd.out (fun h => h.elim hpn.1 hpn.2))).2.2.1
      have cB : ∀ z, Fr xd z (fun k => k = q2 ∨ k = q3) → z.cell? ⟨p, 3, none⟩ = some (.int .i64 (c'.col : Int)) := fun z hz => (five_cells (hz.kept Hrd.out (fun h => h.elim hpn.1 hpn.2))).2.2.2.1
      have cC : ∀ z, Fr xd z (fun k => k = q2 ∨ k = q3) → z.cell? ⟨p, 4, none⟩ = some (.int .i64 (c'.err : Int)) := fun z hz => (five_cells (hz.kept Hrd.out (fun h => h.elim hpn.1 hpn.2))).2.2.2.2
      rw [hxd] at cA cB cC
      refine wp_region_tree (fun k => k = q2 ∨ k = q3) (.take 0 (.take 1 (.take 2 (.take 3 (.take 4 (.take 5 (.take 6 (.take 7 (.take 8 (.one 9 (.one 10 (.take 11 .nil)))))))))))) (by kernel_rfl) (by kernel_rfl) (by decide) (by kernel_rfl) ?_
      rw [← hxd] at cA cB cC ⊢
      clear fd hxd hpn
      iterate 9 (refine wpT_take (v := ?_) rfl rfl (fun x hx => ?_) ?_; rotate_left; (focus (go_simp; with_reducible rfl)); simp only [Act.put, List.setIfInBounds_toArray, List.set_cons_zero, List.set_cons_succ])
      clear cA cB cC
      have hne : q2 ≠ q3 := by have := Hqq.out; omega
      have hne' : q3 ≠ q2 := fun h => hne h.symm
      obtain ⟨z0, z1⟩ : xd.cell? ⟨q2, 0, none⟩ = some (.int .u64 0) ∧ xd.cell? ⟨q2, 1, none⟩ = some (.slice none 0 0) := ⟨two_cell0 (Hbd.out.1), two_cell1 (Hbd.out.1)⟩
      have f20 := two_free (Hbd.out.1) 0
      have f21 := two_free (Hbd.out.1) 1
      refine wpT_one rfl rfl (fun K hK => ?_)
      go_simp
      refine hK _ _ (((fr_put xd q2 _ _).trans (fr_put _ q2 _ _) (fun _ _ h => h)).mono (fun _ _ h => .inl h)) ?_
      clear hK K z0 z1 f20 f21
      obtain ⟨y1, hy1⟩ : ∃ x, x = (xd.setCell ⟨q2, 0, none⟩ (.int .u64 0)).setCell ⟨q2, 1, none⟩ (.slice none 0 0) := ⟨_, rfl⟩
      have g1 : Fr xd y1 (fun k => k = q2) := by rw [hy1]; exact (fr_put _ _ _ _).trans (fr_put _ _ _ _) (fun _ _ h => h)
      have Hy2 : Hid (y1.heap[q2]? = some (.cells #[.int .u64 0, .slice none 0 0] 25 (0, 0))) := by show _ = _; rw [hy1]; exact two_set1 (two_set0 (Hbd.out.1))
      have hy3 : y1.heap[q3]? = some (.cells #[.int .i64 0, .int .i64 0] 38 (0, 0)) := g1.kept (Hbd.out.2) hne'
      have Hfy : Hid (Fr w y1 (fun _ => False)) := Hfd.out.newer g1 (fun k hk => by have := Hqq.out; omega)
      rw [← hy1]
      clear g1 hy1
      obtain ⟨z0, z1⟩ : y1.cell? ⟨q3, 0, none⟩ = some (.int .i64 0) ∧ y1.cell? ⟨q3, 1, none⟩ = some (.int .i64 0) := ⟨two_cell0 hy3, two_cell1 hy3⟩
      have f30 := two_free hy3 0
      have f31 := two_free hy3 1
      refine wpT_one rfl rfl (fun K hK => ?_)
      go_simp
      refine hK _ _ (((fr_put y1 q3 _ _).trans (fr_put _ q3 _ _) (fun _ _ h => h)).mono (fun _ _ h => .inr h)) ?_
      clear hK K z0 z1 f30 f31
      obtain ⟨y2, hy2⟩ : ∃ x, x = (y1.setCell ⟨q3, 0, none⟩ (.int .i64 (c'.line : Int))).setCell ⟨q3, 1, none⟩ (.int .i64 (c'.col : Int)) := ⟨_, rfl⟩
      have g2 : Fr y1 y2 (fun k => k = q3) := by rw [hy2]; exact (fr_put _ _ _ _).trans (fr_put _ _ _ _) (fun _ _ h => h)
      have Hz2 : Hid (y2.heap[q2]? = some (.cells #[.int .u64 0, .slice none 0 0] 25 (0, 0))) := g2.kept Hy2.out hne
      have Hz3 : Hid (y2.heap[q3]? = some (.cells #[.int .i64 (c'.line : Int), .int .i64 (c'.col : Int)] 38 (0, 0))) := by show _ = _; rw [hy2]; exact two_set1 (two_set0 hy3)
      have Hfz : Hid (Fr w y2 (fun _ => False)) := Hfy.out.newer g2 (fun k hk => by have := Hqq.out; omega)
      rw [← hy2]
      clear g2 hy2 hy3 hne hne'
      iterate 1 (refine wpT_take (v := ?_) rfl rfl (fun x hx => ?_) ?_; rotate_left; (focus (go_simp; with_reducible rfl)); simp only [Act.put, List.setIfInBounds_toArray, List.set_cons_zero, List.set_cons_succ])
      unfold wpT
      go_wp2
      obtain rfl := HRR.out
      refine bodyPost_ret (results_cct rfl rfl rfl (run_loadVar_row _ _ 25 _ _ (0, 0) _ Hz2.out Tryz.underlying25 rfl histSize) (run_loadVar_row _ _ 38 _ _ (0, 0) _ Hz3.out Tryz.underlying38 rfl placeSize2)) rfl ?_
      exact ⟨⟨_, rfl, RdV.nil _⟩, Hfz.out⟩
    have He' : Hid (c'.err = 0) := he
    rw [he] at d4
    have d4' : x4.cell? ⟨p, 4, none⟩ = some (.int .i64 0) := d4
    obtain ⟨i0, i1, i2, i3⟩ := four_cells Hq10.out
    have hel5 : evs.length ≤ 100000 := by have h1 := Hel.out; have h2 := Hend.out; have h3 := Hs.out; omega
    have Hel5 : Hid _ := hel5
    obtain ⟨v5, x5, hrun5, ho5, hf5, hm5⟩ := app_life x4 _ evs ((u, vv), fr, tt) Hov4.out (by omega)
    obtain ⟨a5, c5, hv5, -⟩ := ho5.rd.form
    obtain ⟨m5, hm5'⟩ : ∃ m, m = (evs ++ [((u, vv), fr, tt)]).length := ⟨_, rfl⟩
    rw [← hm5'] at hv5
    subst hv5
    have g45 : Fr x4 x5 (fun k => (Value.slice a0 m0 c0).ownBlock = some k) := ((Fr.refl x4 (fun k => (Value.slice a0 m0 c0).ownBlock = some k)).alloc _).trans hf5 (fun _ _ h => h)
    have hap : ∀ k, (Value.slice a0 m0 c0).ownBlock = some k → k ≠ q2 ∧ k ≠ q3 ∧ k ≠ q9 ∧ k ≠ p := fun k hk => by
      have h1 := Hvn.out k hk
      have h2 := Hq69.out.2 k hk
      have h4 := Hp.out
      have h5 := Hqq.out
      exact ⟨by omega, by omega, by omega, by omega⟩
    have Hb5' : Hid (x5.heap[q2]? = some (.cells #[.int .u64 0, .slice none 0 0] 25 (0, 0)) ∧ x5.heap[q3]? = some (.cells #[.int .i64 0, .int .i64 0] 38 (0, 0)) ∧ x5.heap[q9]? = some (.cells #[.int .i64 (c.line : Int), .int .i64 (c.col : Int)] 38 (0, 0)) ∧ RSc x5 p s c') := ⟨g45.kept Hb4'.out.1 (fun h => (hap _ h).1 rfl), g45.kept Hb4'.out.2.1 (fun h => (hap _ h).2.1 rfl), g45.kept Hb4'.out.2.2 (fun h => (hap _ h).2.2.1 rfl), g45.kept Hr4'.out (fun h => (hap _ h).2.2.2 rfl)⟩
    have Ho5 : Hid (OwnL x5 (.slice a5 m5 c5) (evs ++ [((u, vv), fr, tt)])) := ho5
    have Hvn5 : Hid (∀ k, (Value.slice a5 m5 c5).ownBlock = some k → p < k) := fun k hk => by
      rcases hm5 k hk with h2 | h2
      · exact Hvn.out k h2
      · have h3 := lt_of_block Hr4'.out; omega
    have Hf5' : Hid (Fr w x5 (fun _ => False)) := Hf4'.out.newer g45 (fun k hk => by have h1 := Hvn.out k hk; have h3 := Hp.out; have h4 := Hqq.out; omega)
    clear ho5 hf5 hm5 hm5' g45 hap he d4 hel5
    go_upto_region 16 with (at_builtin; refine wpList_append_run rfl (.tmp 57) (.tmp 59) 51 rfl rfl rfl hrun5 ?_)
    have Hfit6 : Hid (∀ x ∈ evs ++ [((u, vv), fr, tt)], LfFit x) := fun x hx => by
      rcases List.mem_append.1 hx with hx | hx
      · exact Hfit.out x hx
      · rw [List.mem_singleton] at hx; rw [hx]; exact HEf.out
    have kc := refLifeCheck_any n (.slice a5 m5 c5) (evs ++ [((u, vv), fr, tt)]) x5 Ho5.out.rd (by have := Hel5.out; simp; omega) Hfit6.out
    obtain ⟨⟨K1, K2⟩, hK⟩ : ∃ x, x = lifeCheckF n (evs ++ [((u, vv), fr, tt)]) := ⟨_, rfl⟩
    rw [← hK] at kc
    have HK : Hid _ := hK
    dsimp only at kc
    clear hrun5 i0 i1 i2 i3 d4' hK Hb4' Hov4 Hf4' Hr4'
    go_wp2_with fail
    refine kc.mono ?_
    rintro r x7 ⟨rfl, g⟩
    have Hb7' : Hid (x7.heap[q2]? = some (.cells #[.int .u64 0, .slice none 0 0] 25 (0, 0)) ∧ x7.heap[q3]? = some (.cells #[.int .i64 0, .int .i64 0] 38 (0, 0)) ∧ x7.heap[q9]? = some (.cells #[.int .i64 (c.line : Int), .int .i64 (c.col : Int)] 38 (0, 0)) ∧ RSc x7 p s c') := ⟨g.kept Hb5'.out.1 (fun h => h), g.kept Hb5'.out.2.1 (fun h => h), g.kept Hb5'.out.2.2.1 (fun h => h), g.kept Hb5'.out.2.2.2 (fun h => h)⟩
    have Ho7 : Hid (OwnL x7 (.slice a5 m5 c5) (evs ++ [((u, vv), fr, tt)])) := Ho5.out.frame g (fun _ _ h => h)
    have Hf7' : Hid (Fr w x7 (fun _ => False)) := Hf5'.out.none g
    clear kc g Hb5' Ho5 Hf5'
    by_cases hk2 : K2 = 0
    · subst hk2
      have Hst : Hid (parseLfs s n k (evs ++ [((u, vv), fr, tt)]) c' = R) := by
        show _ = _
        rw [← Hpe.out, tparse_step He.out Hend.out (by rw [← Hc'.out]; exact He'.out) (by rw [← HE.out, ← HK.out]), ← HE.out, ← Hc'.out]
      have Hpos : Hid (c.pos + 1 ≤ c'.pos ∧ c'.pos ≤ s.size) := by
        have := lfEnd_pos He.out (Nat.le_of_lt Hend.out) (by rw [← Hc'.out]; exact He'.out)
        rw [← Hc'.out] at this
        exact this
      go_wp2_with fail
      go_roundg k
      case rel => exact ⟨c', _, _, rfl, by have h1 := Hg.out; have h2 := Hpos.out; have h3 := Hend.out; omega, Hst.out, Hb7'.out.2.2.2, Hok'.out, Hb7'.out.1, Hb7'.out.2.1, Ho7.out, Hvn5.out, by have h1 := Hel.out; have h2 := Hpos.out; rw [List.length_append, List.length_singleton]; omega, Hfit6.out, Hf7'.out⟩
      case measure => omega
    · have e1 : ((K2 : Int) != 0) = true := by rw [bne_iff_ne]; omega
      have e1' : ((K2 : Int) == 0) = false := by rw [beq_eq_false_iff_ne]; omega
      have e2 : (K2 == 0) = false := by rw [beq_eq_false_iff_ne]; exact hk2
      have HRR : Hid (R = ⟨0, [], c.line, c.col, K2⟩) := by
        show _ = _
        rw [← Hpe.out, tparse_bad He.out Hend.out (by rw [← Hc'.out]; exact He'.out) (by rw [← HE.out, ← HK.out]; exact hk2), ← HE.out, ← HK.out]
      clear hk2
      go_upto_region 18 with fail
      clear e1 e1' e2
      have fd : Fr x7 x7.drew (fun _ => False) := (Fr.refl _ _).drew
      obtain ⟨xd, hxd⟩ : ∃ x, x = x7.drew := ⟨_, rfl⟩
      have Hbd : Hid (xd.heap[q2]? = some (.cells #[.int .u64 0, .slice none 0 0] 25 (0, 0)) ∧ xd.heap[q3]? = some (.cells #[.int .i64 0, .int .i64 0] 38 (0, 0)) ∧ xd.heap[q9]? = some (.cells #[.int .i64 (c.line : Int), .int .i64 (c.col : Int)] 38 (0, 0))) := by rw [hxd]; exact ⟨fd.kept Hb7'.out.1 (fun h => h), fd.kept Hb7'.out.2.1 (fun h => h), fd.kept Hb7'.out.2.2.1 (fun h => h)⟩
      have Hfd : Hid (Fr w xd (fun _ => False)) := by show Fr _ _ _; rw [hxd]; exact Hf7'.out.none fd
      have hq9n : q9 ≠ q2 ∧ q9 ≠ q3 := ⟨by have h1 := Hq69.out.1; have h3 := Hp.out; have h4 := Hqq.out; omega, by have h1 := Hq69.out.1; have h3 := Hp.out; omega⟩
      have c90 : ∀ z, Fr xd z (fun k => k = q2 ∨ k = q3) → z.cell? ⟨q9, 0, none⟩ = some (.int .i64 (c.line : Int)) := fun z hz => two_cell0 (hz.kept Hbd.out.2.2 (fun h => h.elim hq9n.1 hq9n.2))
      have c91 : ∀ z, Fr xd z (fun k => k = q2 ∨ k = q3) → z.cell? ⟨q9, 1, none⟩ = some (.int .i64 (c.col : Int)) := fun z hz => two_cell1 (hz.kept Hbd.out.2.2 (fun h => h.elim hq9n.1 hq9n.2))
      rw [hxd] at c90 c91
      refine wp_region_tree (fun k => k = q2 ∨ k = q3) (.take 0 (.take 1 (.take 2 (.one 3 (.one 4 (.take 5 .nil)))))) (by kernel_rfl) (by kernel_rfl) (by decide) (by kernel_rfl) ?_
      rw [← hxd] at c90 c91 ⊢
      clear fd hxd hq9n
      iterate 3 (refine wpT_take (v := ?_) rfl rfl (fun x hx => ?_) ?_; rotate_left; (focus (go_simp; with_reducible rfl)); simp only [Act.put, List.setIfInBounds_toArray, List.set_cons_zero, List.set_cons_succ])
      clear c90 c91
      have hne : q2 ≠ q3 := by have := Hqq.out; omega
      have hne' : q3 ≠ q2 := fun h => hne h.symm
      obtain ⟨z0, z1⟩ : xd.cell? ⟨q2, 0, none⟩ = some (.int .u64 0) ∧ xd.cell? ⟨q2, 1, none⟩ = some (.slice none 0 0) := ⟨two_cell0 (Hbd.out.1), two_cell1 (Hbd.out.1)⟩
      have f20 := two_free (Hbd.out.1) 0
      have f21 := two_free (Hbd.out.1) 1
      refine wpT_one rfl rfl (fun K hK => ?_)
      go_simp
      refine hK _ _ (((fr_put xd q2 _ _).trans (fr_put _ q2 _ _) (fun _ _ h => h)).mono (fun _ _ h => .inl h)) ?_
      clear hK K z0 z1 f20 f21
      obtain ⟨y1, hy1⟩ : ∃ x, x = (xd.setCell ⟨q2, 0, none⟩ (.int .u64 0)).setCell ⟨q2, 1, none⟩ (.slice none 0 0) := ⟨_, rfl⟩
      have g1 : Fr xd y1 (fun k => k = q2) := by rw [hy1]; exact (fr_put _ _ _ _).trans (fr_put _ _ _ _) (fun _ _ h => h)
      have Hy2 : Hid (y1.heap[q2]? = some (.cells #[.int .u64 0, .slice none 0 0] 25 (0, 0))) := by show _ = _; rw [hy1]; exact two_set1 (two_set0 (Hbd.out.1))
      have hy3 : y1.heap[q3]? = some (.cells #[.int .i64 0, .int .i64 0] 38 (0, 0)) := g1.kept (Hbd.out.2.1) hne'
      have Hfy : Hid (Fr w y1 (fun _ => False)) := Hfd.out.newer g1 (fun k hk => by have := Hqq.out; omega)
      rw [← hy1]
      clear g1 hy1
      obtain ⟨z0, z1⟩ : y1.cell? ⟨q3, 0, none⟩ = some (.int .i64 0) ∧ y1.cell? ⟨q3, 1, none⟩ = some (.int .i64 0) := ⟨two_cell0 hy3, two_cell1 hy3⟩
      have f30 := two_free hy3 0
      have f31 := two_free hy3 1
      refine wpT_one rfl rfl (fun K hK => ?_)
      go_simp
      refine hK _ _ (((fr_put y1 q3 _ _).trans (fr_put _ q3 _ _) (fun _ _ h => h)).mono (fun _ _ h => .inr h)) ?_
      clear hK K z0 z1 f30 f31
      obtain ⟨y2, hy2⟩ : ∃ x, x = (y1.setCell ⟨q3, 0, none⟩ (.int .i64 (c.line : Int))).setCell ⟨q3, 1, none⟩ (.int .i64 (c.col : Int)) := ⟨_, rfl⟩
      have g2 : Fr y1 y2 (fun k => k = q3) := by rw [hy2]; exact (fr_put _ _ _ _).trans (fr_put _ _ _ _) (fun _ _ h => h)
      have Hz2 : Hid (y2.heap[q2]? = some (.cells #[.int .u64 0, .slice none 0 0] 25 (0, 0))) := g2.kept Hy2.out hne
      have Hz3 : Hid (y2.heap[q3]? = some (.cells #[.int .i64 (c.line : Int), .int .i64 (c.col : Int)] 38 (0, 0))) := by show _ = _; rw [hy2]; exact two_set1 (two_set0 hy3)
      have Hfz : Hid (Fr w y2 (fun _ => False)) := Hfy.out.newer g2 (fun k hk => by have := Hqq.out; omega)
      rw [← hy2]
      clear g2 hy2 hy3 hne hne'
      iterate 1 (refine wpT_take (v := ?_) rfl rfl (fun x hx => ?_) ?_; rotate_left; (focus (go_simp; with_reducible rfl)); simp only [Act.put, List.setIfInBounds_toArray, List.set_cons_zero, List.set_cons_succ])
      unfold wpT
      go_wp2
      obtain rfl := HRR.out
      refine bodyPost_ret (results_cct rfl rfl rfl (run_loadVar_row _ _ 25 _ _ (0, 0) _ Hz2.out Tryz.underlying25 rfl histSize) (run_loadVar_row _ _ 38 _ _ (0, 0) _ Hz3.out Tryz.underlying38 rfl placeSize2)) rfl ?_
      exact ⟨⟨_, rfl, RdV.nil _⟩, Hfz.out⟩

end Go.Proofs.YtnffjafddbbjaaaGreatDoor
