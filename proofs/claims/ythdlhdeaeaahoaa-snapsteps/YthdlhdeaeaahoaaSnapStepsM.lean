/-
  The walk of the law SnapSteps, under the condition that snap's functions answer as their contracts say.
-/
import Derived.Test.YthdlhdeaeaahoaaRows
import Derived.Test.YthdlhdeaeaahoaaSI
import Derived.Test.YthdlhdeaeaahoaaXGood
import Derived.Test.YthdlhdeaeaahoaaSHelp
import Derived.Test.YthdlhdeaeaahoaaJ2
namespace Go.Proofs.Ythdlhdeaeaahoaa.snapSteps
open Go.ChangeShapes Go.WideShapes Go.ChangeAt Go.RowKit

set_option maxRecDepth 4000 in
set_option maxHeartbeats 6400000 in
theorem walkM (M : SI) (a0 : Int) (a1 : Option Addr) (len1 cap1 : Nat) (z1 : List Int) (a2 : Int) (w : World) (w0 : (Lit.int .u8 a0).wf = true) (w1 : IsRow .u8 w a1 len1 cap1 z1) (w2 : (Lit.int .u8 a2).wf = true) :
    Calls Try.prog 5 #[.int .u8 a0, .slice a1 len1 cap1, .int .u8 a2] w fun e w' => e = .returned (.bool true) ∧ Below w.heap.size w w' := by
  obtain ⟨bs, hbl, hbb, hbr⟩ := bytes_arg w1
  have Hbs : Hid (Reads .u8 w (.slice a1 len1 cap1) bs) := hbr
  have Hbb : Hid (∀ x ∈ bs, x < 256) := hbb
  have Hbl : Hid (bs.length = len1) := hbl
  clear hbl hbb hbr
  obtain ⟨k, rfl, hk⟩ := eu8_nat w0
  have Hk : Hid (k < 256) := hk
  obtain ⟨ii, rfl, hii⟩ := eu8_nat w2
  have Hii : Hid (ii < 256) := hii
  have wii : IntKind.i64.wrap (ii : Int) = (ii : Int) := IntWalk.i64_in _ (by omega)
  clear w0 w1 w2 hk
  go_enter Try.func5, Try.ntmps5
  go_wp2_with fail
  refine (sknown_any M w).mono ?_
  rintro e w1 ⟨rfl, hf1⟩
  have H01 : Hid (Fr w w1 (fun _ => False)) := hf1
  have Hf1 : Hid (Fr w w1 (fun _ => False)) := hf1
  clear hf1
  by_cases hb90 : 90 < len1
  · have d1 : decide ((90 : Int) < (len1 : Int)) = true := decide_eq_true (by omega)
    have d1' : decide (90 < len1) = true := decide_eq_true hb90
    go_wp2
    go_ret
    exact ⟨rfl, ebelow Hf1.out⟩
  have db90 : decide ((90 : Int) < (len1 : Int)) = false := decide_eq_false (by omega)
  have db90' : decide (90 < len1) = false := decide_eq_false hb90
  have Hl : Hid (bs.length ≤ 90) := by have := Hbl.out; exact (by omega : bs.length ≤ 90)
  clear hb90
  go_wp2_with fail
  refine (seatH_any k _ bs _ (Hbs.out.keep Hf1.out) Hbb.out (by have := Hl.out; omega) Hk.out).mono ?_
  rintro r w2 ⟨n, E, a2', m, c2', rfl, hm, -, -, hok, hr2, hmc, g⟩
  have HO : Hid (HOk n E) := hok
  have Hm : Hid (m = E.length) := hm
  have Hr2 : Hid (RdV w2 (.slice a2' m c2') E) := hr2
  have Hf2 : Hid (Fr w w2 (fun _ => False)) := Hf1.out.none g
  have H12 : Hid (Fr w1 w2 (fun _ => False)) := g
  have Hm40 : Hid (m ≤ 40) := by have := hok.len; show _ ≤ _; omega
  clear g hok hm hr2
  go_upto_region 6 with fail
  obtain ⟨ph, hph⟩ : ∃ p, p = w2.heap.size := ⟨_, rfl⟩
  obtain ⟨w3, hw3⟩ : ∃ x, x = w2.alloc (.cells #[.int .u64 (n : Int), .slice a2' m c2'] 25) := ⟨_, rfl⟩
  rw [← hw3, ← hph]
  have Qh : Hid (∀ z, Fr w3 z (fun _ => False) → z.heap[ph]? = some (.cells #[.int .u64 (n : Int), .slice a2' m c2'] 25 (0, 0))) := fun z hz => hz.kept (by rw [hw3, hph]; exact heap_alloc_new _ _) (fun h => h)
  have H23 : Hid (Fr w2 w3 (fun _ => False)) := by show Fr _ _ _; rw [hw3]; exact (Fr.refl _ _).alloc _
  have Hr3 : Hid (∀ z, Fr w3 z (fun _ => False) → RdV z (.slice a2' m c2') E) := fun z hz => Hr2.out.keep (H23.out.none hz)
  have Hw3 : Hid (Fr w w3 (fun _ => False)) := Hf2.out.none H23.out
  clear hph hw3 Hr2
  have Hchk : Hid ((checkF n E).2 = 0) := by show _ = _; rw [HO.out.chk]
  obtain ⟨ka, kb⟩ : w3.cell? ⟨ph, 0, none⟩ = some (.int .u64 (n : Int)) ∧ w3.cell? ⟨ph, 1, none⟩ = some (.slice a2' m c2') := ⟨two_cell0 (Qh.out w3 (Fr.refl _ _)), two_cell1 (Qh.out w3 (Fr.refl _ _))⟩
  by_cases h0 : m = 0
  · subst h0
    have hE : E = [] := List.eq_nil_of_length_eq_zero Hm.out.symm
    have HA : Hid (afterF n E (ii : Int) = ([], 0)) := by
      show _ = _
      have h1 := after_err n E (ii : Int)
      rw [Hchk.out] at h1
      have h2 := after_length n E (ii : Int)
      rw [hE] at h2
      have h3 : (afterF n E (ii : Int)).1 = [] := List.eq_nil_of_length_eq_zero (by rw [hE]; simpa using h2)
      exact Prod.ext h3 h1
    clear hE
    go_wp2_with fail
    refine (M.after n _ E (ii : Int) _ (Hr3.out w3 (Fr.refl _ _)) HO.out.n64 (by have := HO.out.len; omega) HO.out.fit (by omega) (by omega)).mono ?_
    rw [HA.out]
    rintro r w4 ⟨⟨vA, rfl, hvA⟩, g⟩
    obtain ⟨aA, cA, rfl, -⟩ : ∃ a c, vA = .slice a 0 c ∧ 0 ≤ c := hvA.form
    have Hfo : Hid (Fr w w4 (fun _ => False)) := Hw3.out.none g
    clear g hvA ka kb
    dsimp only
    go_wp2
    go_ret
    exact ⟨rfl, ebelow Hfo.out⟩
  have d1 : ((m : Int) == 0) = false := by rw [beq_eq_false_iff_ne]; omega
  have d1' : (m == 0) = false := by rw [beq_eq_false_iff_ne]; exact h0
  obtain ⟨q, hq⟩ : ∃ q, q = ii % m := ⟨_, rfl⟩
  have hqm : q < m := by rw [hq]; exact Nat.mod_lt _ (by omega)
  have wq1 : (ii : Int).tmod (m : Int) = (q : Int) := by rw [Int.tmod_eq_emod_of_nonneg (by omega), hq]; simp
  have wq2 : (ii : Int) % (m : Int) = (q : Int) := by rw [hq]; simp
  have hz0 : ¬ m = 0 := h0
  obtain ⟨⟨t, ⟨e1, e2⟩, ad⟩, hx⟩ : ∃ a, E[q]? = some a := ⟨_, List.getElem?_eq_getElem (by rw [← Hm.out]; exact hqm)⟩
  have hm40 := Hm40.out
  obtain ⟨q1, hq1⟩ : ∃ k, k = q + 1 := ⟨_, rfl⟩
  have wq3 : wrap64 ((q : Int) + 1) = (q1 : Int) := by rw [IntWalk.wrap64_in _ (by omega)]; omega
  have wq4 : (q : Int) + 1 = (q1 : Int) := by omega
  obtain ⟨A, hA⟩ : ∃ A, A = aftF [] (E.take q) := ⟨_, rfl⟩
  obtain ⟨B, hB⟩ : ∃ B, B = aftF [] (E.take q1) := ⟨_, rfl⟩
  have HA : Hid (afterF n E (q : Int) = (A, 0)) := by show _ = _; unfold afterF; rw [if_pos Hchk.out, hA]; rfl
  have HB : Hid (afterF n E (q1 : Int) = (B, 0)) := by show _ = _; unfold afterF; rw [if_pos Hchk.out, hB]; rfl
  have hgood := (good_check Hchk.out).2.2.1
  have HT1 : Hid (turnF A (e1, e2) ad = some B) := by show _ = _; rw [hA, hB, hq1]; exact good_step hgood hx
  have HT2 : Hid (turnF B (e1, e2) (!ad) = some A) := turn_back HT1.out
  have HrB : Hid (eRising B = true) := turn_rising HT1.out
  have HrA : Hid (eRising A = true) := (turn_add HT1.out).1
  have HmB : Hid (decide ((e1, e2) ∈ B) = ad) := turn_there HT1.out
  have HAf : Hid (∀ e ∈ A, EgFit e) := by have h1 := after_fit (n := n) (k := (q : Int)) HO.out.fit; rw [HA.out] at h1; exact h1
  have HBf : Hid (∀ e ∈ B, EgFit e) := by have h1 := after_fit (n := n) (k := (q1 : Int)) HO.out.fit; rw [HB.out] at h1; exact h1
  have HAl : Hid (A.length ≤ 40) := by have h1 := after_length n E (q : Int); rw [HA.out] at h1; exact Nat.le_trans h1 HO.out.len
  have HBl : Hid (B.length ≤ 40) := by have h1 := after_length n E (q1 : Int); rw [HB.out] at h1; exact Nat.le_trans h1 HO.out.len
  have Hxf : Hid (EvFit (t, (e1, e2), ad)) := HO.out.fit _ (List.mem_of_getElem? hx)
  have Hxf2 : Hid (EvFit (t, (e1, e2), !ad)) := Hxf.out
  have Hx : Hid _ := hx
  clear hq hA hB hgood hx hq1
  go_wp2_with fail
  refine (M.after n _ E (q : Int) _ (Hr3.out w3 (Fr.refl _ _)) HO.out.n64 (by have := HO.out.len; omega) HO.out.fit (by omega) (by omega)).mono ?_
  rw [HA.out]
  rintro r w4 ⟨⟨vA, rfl, hvA⟩, g⟩
  have G4 : Hid (Fr w3 w4 (fun _ => False)) := g
  have HvA : Hid (∀ z, Fr w4 z (fun _ => False) → RdE z vA A) := fun z hz => RdE.keep hvA hz
  clear g hvA ka kb
  dsimp only
  obtain ⟨ka, kb⟩ : w4.cell? ⟨ph, 0, none⟩ = some (.int .u64 (n : Int)) ∧ w4.cell? ⟨ph, 1, none⟩ = some (.slice a2' m c2') := ⟨two_cell0 (Qh.out w4 G4.out), two_cell1 (Qh.out w4 G4.out)⟩
  go_wp2_with fail
  refine (M.after n _ E (q1 : Int) _ (Hr3.out w4 G4.out) HO.out.n64 (by have := HO.out.len; omega) HO.out.fit (by omega) (by omega)).mono ?_
  rw [HB.out]
  rintro r w5 ⟨⟨vB, rfl, hvB⟩, g⟩
  have G45 : Hid (Fr w4 w5 (fun _ => False)) := g
  have G5 : Hid (Fr w3 w5 (fun _ => False)) := G4.out.none g
  have HvB : Hid (∀ z, Fr w5 z (fun _ => False) → RdE z vB B) := fun z hz => RdE.keep hvB hz
  clear g hvB ka kb
  dsimp only
  obtain ⟨ka, kb⟩ : w5.cell? ⟨ph, 0, none⟩ = some (.int .u64 (n : Int)) ∧ w5.cell? ⟨ph, 1, none⟩ = some (.slice a2' m c2') := ⟨two_cell0 (Qh.out w5 G5.out), two_cell1 (Qh.out w5 G5.out)⟩
  obtain ⟨bk, off, cap, e3, hbk, hca⟩ := (Hr3.out w3 (Fr.refl _ _)).get q _ Hx.out
  simp only [Value.slice.injEq] at e3
  obtain ⟨rfl, -, rfl⟩ := e3
  have Hca : Hid (∀ x, Fr w3 x (fun _ => False) → x.cell? ⟨bk, off + q * 4, none⟩ = some (.int .i64 t) ∧ x.cell? ⟨bk, off + q * 4 + 1, none⟩ = some (.int .u32 (e1 : Int)) ∧ x.cell? ⟨bk, off + q * 4 + 2, none⟩ = some (.int .u32 (e2 : Int)) ∧ x.cell? ⟨bk, off + q * 4 + 3, none⟩ = some (.bool ad)) := fun x hx => hca x (hx.mono (fun _ _ h => h.elim))
  obtain ⟨k0, k1, k2, k3⟩ := Hca.out w5 G5.out
  have hqm' : (q : Int) < (m : Int) := by omega
  have hq0 : (0 : Int) ≤ (q : Int) := by omega
  clear hca hbk
  go_wp2_with fail
  refine (M.turn vA A (t, (e1, e2), ad) _ (HvA.out w5 G45.out) (by have := HAl.out; omega) HAf.out Hxf.out).mono ?_
  rw [HT1.out]
  rintro r w6 ⟨⟨vC, rfl, hvC⟩, g⟩
  have G56 : Hid (Fr w5 w6 (fun _ => False)) := g
  have G6 : Hid (Fr w3 w6 (fun _ => False)) := G5.out.none g
  have HvC : Hid (∀ z, Fr w6 z (fun _ => False) → RdE z vC B) := fun z hz => RdE.keep hvC hz
  clear g hvC ka kb k0 k1 k2 k3
  obtain ⟨ka, kb⟩ : w6.cell? ⟨ph, 0, none⟩ = some (.int .u64 (n : Int)) ∧ w6.cell? ⟨ph, 1, none⟩ = some (.slice (some ⟨bk, off, none⟩) m c2') := ⟨two_cell0 (Qh.out w6 G6.out), two_cell1 (Qh.out w6 G6.out)⟩
  obtain ⟨k0, k1, k2, k3⟩ := Hca.out w6 G6.out
  go_upto_region 14 with fail
  obtain ⟨pe, hpe⟩ : ∃ p, p = w6.heap.size := ⟨_, rfl⟩
  obtain ⟨w7, hw7⟩ : ∃ x, x = w6.alloc (.cells #[.int .i64 t, .int .u32 (e1 : Int), .int .u32 (e2 : Int), .bool ad] 53) := ⟨_, rfl⟩
  rw [← hw7, ← hpe]
  have H7 : Hid (w7.heap[pe]? = some (.cells #[.int .i64 t, .int .u32 (e1 : Int), .int .u32 (e2 : Int), .bool ad] 53 (0, 0))) := by show _ = _; rw [hw7, hpe]; exact heap_alloc_new _ _
  have G67 : Hid (Fr w6 w7 (fun _ => False)) := by show Fr _ _ _; rw [hw7]; exact (Fr.refl _ _).alloc _
  have Hpe : Hid (w6.heap.size ≤ pe) := by show _ ≤ _; omega
  clear ka kb k0 k1 k2 k3 hpe hw7
  obtain ⟨k0, k1, k2, k3⟩ := four_cells H7.out
  have fz := four_free (k := 3) H7.out
  go_upto_region 15 with fail
  have h8 := four_put3 H7.out (.bool (!ad))
  have g78 : Fr w6 (w7.setCell ⟨pe, 3, none⟩ (.bool (!ad))) (fun _ => False) := G67.out.newer (fr_cell w7 _ _ _) (fun k h => by have := Hpe.out; omega)
  clear k0 k1 k2 k3 fz
  generalize w7.setCell ⟨pe, 3, none⟩ (.bool (!ad)) = w8 at h8 g78 ⊢
  have G68 : Hid _ := g78
  obtain ⟨k0, k1, k2, k3⟩ := four_cells h8
  clear h8 g78
  go_wp2_with fail
  refine (M.turn vB B (t, (e1, e2), !ad) _ (HvB.out w8 (G56.out.none G68.out)) (by have := HBl.out; omega) HBf.out Hxf2.out).mono ?_
  rw [HT2.out]
  rintro r w9 ⟨⟨vD, rfl, hvD⟩, g⟩
  have G69 : Hid (Fr w6 w9 (fun _ => False)) := G68.out.none g
  have HvD : Hid (∀ z, Fr w9 z (fun _ => False) → RdE z vD A) := fun z hz => RdE.keep hvD hz
  clear g hvD k0 k1 k2 k3
  obtain ⟨x0, hx0⟩ : ∃ x, x = w9.drew := ⟨_, rfl⟩
  have G0 : Hid (Fr w9 x0 (fun _ => False)) := by show Fr _ _ _; rw [hx0]; exact (Fr.refl _ _).drew
  have G3x : Hid (Fr w3 x0 (fun _ => False)) := (G6.out.none G69.out).none G0.out
  go_wp2_with fail
  refine wp_region_tree (fun _ => False) (.take 0 (.take 1 (.take 2 (.take 3 (.take 4 (.take 5 (.take 6 (.take 7 (.take 8 (.take 9 (.take 10 (.take 11 (.one 12 (.take 13 (.take 14 (.take 15 (.take 16 (.take 17 (.take 18 (.take 19 (.one 20 (.take 21 (.take 22 (.take 23 (.one 24 (.take 25 (.take 26 (.take 27 (.take 28 (.take 29 (.take 30 (.take 31 (.take 32 (.take 33 (.take 35 (.take 36 (.take 37 (.take 38 (.take 39 (.take 40 (.one 34 (.take 41 (.take 42 (.take 43 .nil)))))))))))))))))))))))))))))))))))))))))))) (by kernel_rfl) (by kernel_rfl) (by decide) (by kernel_rfl) ?_
  rw [← hx0]
  clear hx0
  repeat (refine wpT_take (v := ?_) rfl rfl (fun x hx => ?_) ?_; rotate_left; (focus (go_simp; with_reducible rfl)); simp only [Act.put, List.setIfInBounds_toArray, List.set_cons_zero, List.set_cons_succ])
  refine wpT_one rfl rfl (fun K hK => ?_)
  go_simp
  refine (refSameEdges_any vB vC B B _ (HvB.out x0 ((G56.out.none G69.out).none G0.out)) (HvC.out x0 (G69.out.none G0.out)) (by have := HBl.out; omega) (by have := HBl.out; omega)).mono ?_
  rw [decide_eq_true rfl]
  rintro r x1 ⟨rfl, g⟩
  refine hK _ _ g ?_
  clear hK K
  have G01 : Hid (Fr x0 x1 (fun _ => False)) := g
  clear g
  repeat (refine wpT_take (v := ?_) rfl rfl (fun x hx => ?_) ?_; rotate_left; (focus (go_simp; with_reducible rfl)); simp only [Act.put, List.setIfInBounds_toArray, List.set_cons_zero, List.set_cons_succ])
  refine wpT_one rfl rfl (fun K hK => ?_)
  go_simp
  refine (refSameEdges_any vA vD A A _ (HvA.out x1 ((G45.out.none (G56.out.none G69.out)).none (G0.out.none G01.out))) (HvD.out x1 (G0.out.none G01.out)) (by have := HAl.out; omega) (by have := HAl.out; omega)).mono ?_
  rw [decide_eq_true rfl]
  rintro r x2 ⟨rfl, g⟩
  refine hK _ _ g ?_
  clear hK K
  have G02 : Hid (Fr x0 x2 (fun _ => False)) := G01.out.none g
  clear g
  repeat (refine wpT_take (v := ?_) rfl rfl (fun x hx => ?_) ?_; rotate_left; (focus (go_simp; with_reducible rfl)); simp only [Act.put, List.setIfInBounds_toArray, List.set_cons_zero, List.set_cons_succ])
  refine wpT_one rfl rfl (fun K hK => ?_)
  go_simp
  refine (refRising8_any vB B _ (HvB.out x2 ((G56.out.none G69.out).none (G0.out.none G02.out))) (by have := HBl.out; omega)).mono ?_
  rw [HrB.out]
  rintro r x3 ⟨rfl, g⟩
  refine hK _ _ g ?_
  clear hK K
  have G03 : Hid (Fr x0 x3 (fun _ => False)) := G02.out.none g
  clear g
  have ka : ∀ z, Fr x3 z (fun _ => False) → z.cell? ⟨ph, 1, none⟩ = some (.slice (some ⟨bk, off, none⟩) m c2') := fun z hz => two_cell1 (Qh.out z (G3x.out.none (G03.out.none hz)))
  have kc : ∀ z, Fr x3 z (fun _ => False) → z.cell? ⟨bk, off + q * 4 + 1, none⟩ = some (.int .u32 (e1 : Int)) := fun z hz => (Hca.out z (G3x.out.none (G03.out.none hz))).2.1
  have kd : ∀ z, Fr x3 z (fun _ => False) → z.cell? ⟨bk, off + q * 4 + 2, none⟩ = some (.int .u32 (e2 : Int)) := fun z hz => (Hca.out z (G3x.out.none (G03.out.none hz))).2.2.1
  have ke : ∀ z, Fr x3 z (fun _ => False) → z.cell? ⟨bk, off + q * 4 + 3, none⟩ = some (.bool ad) := fun z hz => (Hca.out z (G3x.out.none (G03.out.none hz))).2.2.2
  repeat (refine wpT_take (v := ?_) rfl rfl (fun x hx => ?_) ?_; rotate_left; (focus (go_simp; with_reducible rfl)); simp only [Act.put, List.setIfInBounds_toArray, List.set_cons_zero, List.set_cons_succ])
  clear ka kc kd ke
  refine wpT_one rfl rfl (fun K hK => ?_)
  go_simp
  refine (M.has vB B (e1, e2) _ (HvB.out x3 ((G56.out.none G69.out).none (G0.out.none G03.out))) (by have := HBl.out; omega) HBf.out Hxf.out.2).mono ?_
  rw [HmB.out]
  rintro r x4 ⟨rfl, g⟩
  refine hK _ _ g ?_
  clear hK K
  have Hfo : Hid (Fr w x4 (fun _ => False)) := Hw3.out.none (G3x.out.none (G03.out.none g))
  have haa : (ad == ad) = true := by simp
  clear g
  repeat (refine wpT_take (v := ?_) rfl rfl (fun x hx => ?_) ?_; rotate_left; (focus (go_simp; with_reducible rfl)); simp only [Act.put, List.setIfInBounds_toArray, List.set_cons_zero, List.set_cons_succ])
  unfold wpT
  go_wp2_with fail
  go_ret
  exact ⟨by first | rfl | simp, ebelow Hfo.out⟩

end Go.Proofs.Ythdlhdeaeaahoaa.snapSteps
