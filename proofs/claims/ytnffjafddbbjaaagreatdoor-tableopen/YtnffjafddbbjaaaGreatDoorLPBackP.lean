/-
  The contract of life's Back.
-/
import Derived.Test.YtnffjafddbbjaaaGreatDoorLPBack
import Derived.Test.YtnffjafddbbjaaaGreatDoorJ3
import Derived.Test.YtnffjafddbbjaaaGreatDoorJ10
import Derived.Test.YtnffjafddbbjaaaGreatDoorLCell2
namespace Go.Proofs.YtnffjafddbbjaaaGreatDoor
open Go.RowKit

set_option maxRecDepth 4000 in
set_option maxHeartbeats 1600000 in
theorem back_any (n : Nat) (v : Value) (l : List Lf) (w : World) (h : RdL w v l) (hl : l.length ≤ 100000) (hfit : ∀ x ∈ l, LfFit x) : Calls Tryz.prog 37 #[.int .u64 (n : Int), v] w fun r w' =>
    (∃ v', r = .returned (.tuple #[histV (backF n l).1 v', .int .i64 ((backF n l).2.2 : Int)]) ∧ RdV w' v' (backF n l).2.1) ∧ Fr w w' (fun _ => False) := by
  obtain ⟨a0, c0, rfl, hc0⟩ := h.form
  obtain ⟨m, hm⟩ : ∃ m, m = l.length := ⟨_, rfl⟩
  rw [← hm] at h hl hc0 ⊢
  obtain ⟨⟨R0, R1, R2⟩, hR⟩ : ∃ R, R = backF n l := ⟨_, rfl⟩
  rw [← hR]
  have HR : Hid _ := hR
  have Hr : Hid (RdL w (.slice a0 m c0) l) := h
  have Hm : Hid _ := hm
  have Hfit : Hid _ := hfit
  have Hl : Hid (l.length ≤ 100000) := by show _ ≤ _; rw [← hm]; exact hl
  clear h hm hR hfit
  dsimp only
  go_enter Tryz.func37, Tryz.ntmps37
  go_upto_region 1 with fail
  obtain ⟨p4, hp4⟩ : ∃ p, p = w.heap.size := ⟨_, rfl⟩
  obtain ⟨w1, hw1⟩ : ∃ x, x = w.alloc (.cells #[.int .u64 0, .slice none 0 0] 25) := ⟨_, rfl⟩
  rw [← hw1, ← hp4]
  have H4 : Hid (w1.heap[p4]? = some (.cells #[.int .u64 0, .slice none 0 0] 25 (0, 0))) := by show _ = _; rw [hw1, hp4]; exact heap_alloc_new _ _
  have Hf1 : Hid (Fr w w1 (fun _ => False)) := by show Fr _ _ _; rw [hw1]; exact (Fr.refl _ _).alloc _
  have Hp4 : Hid (w.heap.size ≤ p4) := by show _ ≤ _; omega
  clear hw1 hp4
  have hck := lcheck_any n (.slice a0 m c0) l w1 (Hr.out.keep Hf1.out) (by have := Hl.out; omega) Hfit.out
  obtain ⟨⟨C1, C2⟩, hC⟩ : ∃ C, C = lifeCheckF n l := ⟨_, rfl⟩
  rw [← hC] at hck
  have HC : Hid _ := hC
  clear hC
  dsimp only at hck
  go_wp2_with fail
  refine hck.mono ?_
  rintro r x1 ⟨rfl, g⟩
  have H4b : Hid (x1.heap[p4]? = some (.cells #[.int .u64 0, .slice none 0 0] 25 (0, 0))) := g.kept H4.out (fun h => h)
  have Hx1 : Hid (Fr w x1 (fun _ => False)) := Hf1.out.none g
  clear g hck
  by_cases h0 : C2 = 0
  · subst h0
    have HCz : Hid ((lifeCheckF n l).2 = 0) := by show _ = _; rw [← HC.out]
    have HRR : Hid ((R0, R1, R2) = (n, backE [] l, 0)) := by show _ = _; rw [HR.out]; exact if_pos HCz.out
    simp only [Prod.mk.injEq] at HRR
    obtain ⟨e1, e2, e3⟩ := HRR.out
    subst e1 e3
    have HR1 : Hid (R1 = backE [] l) := e2
    clear e2 HRR
    have hto := told_any (.slice a0 m c0) l x1 (Hr.out.keep Hx1.out) (by have := Hl.out; omega)
    go_wp2_with fail
    refine hto.mono ?_
    rintro r x2 ⟨⟨v2, rfl, ho2, hn2⟩, g⟩
    obtain ⟨a2, l2, c2, rfl⟩ : ∃ a l c, v2 = .slice a l c := by obtain ⟨a, c, e, -⟩ := ho2.rd.form; exact ⟨a, _, c, e⟩
    have Ho2 : Hid (OwnV x2 (.slice a2 l2 c2) (l.flatMap lEv)) := ho2
    have Hn2 : Hid (∀ k, (Value.slice a2 l2 c2).ownBlock = some k → x1.heap.size ≤ k) := hn2
    have H4c : Hid (x2.heap[p4]? = some (.cells #[.int .u64 0, .slice none 0 0] 25 (0, 0))) := g.kept H4b.out (fun h => h)
    have Hx2 : Hid (Fr w x2 (fun _ => False)) := Hx1.out.none g
    clear g hto ho2 hn2
    go_upto_region 5 with fail
    obtain ⟨p8, hp8⟩ : ∃ p, p = x2.heap.size := ⟨_, rfl⟩
    obtain ⟨x3, hx3⟩ : ∃ x, x = x2.alloc (.cells #[.slice a2 l2 c2] 23) := ⟨_, rfl⟩
    rw [← hx3, ← hp8]
    have H8 : Hid (x3.heap[p8]? = some (.cells #[.slice a2 l2 c2] 23 (0, 0))) := by show _ = _; rw [hx3, hp8]; exact heap_alloc_new _ _
    have Hx3 : Hid (Fr x2 x3 (fun _ => False)) := by show Fr _ _ _; rw [hx3]; exact (Fr.refl _ _).alloc _
    have Hb8 : Hid ((Value.slice a2 l2 c2).ownBlock ≠ some p8) := by show _ ≠ _; intro e; have := Ho2.out.lt p8 e; omega
    have Hb4 : Hid ((Value.slice a2 l2 c2).ownBlock ≠ some p4) := by show _ ≠ _; intro e; have h1 := Hn2.out p4 e; have h2 := lt_of_block H4b.out; omega
    clear hp8 hx3
    have hso := backSort_any (.slice a2 l2 c2) (l.flatMap lEv) p8 x3 (Ho2.out.frame Hx3.out (fun _ _ h => h)) (one_cell H8.out).1 Hb8.out (by have := flat_length l; have := Hl.out; omega)
    have c8 := (one_cell H8.out).1
    go_wp2_with fail
    refine hso.mono ?_
    rintro r x4 ⟨rfl, ⟨evs, hperm, hsort, ho⟩, hf⟩
    have hev := back_only HCz.out hperm hsort
    rw [← HR1.out] at hev
    subst hev
    have Ho4 : Hid (OwnV x4 (.slice a2 l2 c2) evs) := ho
    have H8b : Hid (x4.heap[p8]? = some (.cells #[.slice a2 l2 c2] 23 (0, 0))) := hf.kept H8.out Hb8.out
    have H4d : Hid (x4.heap[p4]? = some (.cells #[.int .u64 0, .slice none 0 0] 25 (0, 0))) := hf.kept (Hx3.out.kept H4c.out (fun h => h)) Hb4.out
    have Hx4 : Hid (Fr w x4 (fun _ => False)) := (Hx2.out.none Hx3.out).newer hf (fun k hk => by have h1 := Hn2.out k hk; have h2 := Hx1.out.size; omega)
    clear hso c8 hperm hsort ho hf
    have c8 := (one_cell H8b.out).1
    obtain ⟨e0', e1'⟩ : x4.cell? ⟨p4, 0, none⟩ = some (.int .u64 0) ∧ x4.cell? ⟨p4, 1, none⟩ = some (.slice none 0 0) := ⟨two_cell0 H4d.out, two_cell1 H4d.out⟩
    have f0' : x4.frozen? ⟨p4, 0, none⟩ = false := two_free H4d.out 0
    have f1' : x4.frozen? ⟨p4, 1, none⟩ = false := two_free H4d.out 1
    have Hfin : Hid (Fr w ((x4.setCell ⟨p4, 0, none⟩ (.int .u64 (R0 : Int))).setCell ⟨p4, 1, none⟩ (.slice a2 l2 c2)) (fun _ => False)) := Hx4.out.newer ((fr_cell x4 _ _ _).trans (fr_cell _ _ _ _) (fun _ _ h => h)) (fun i hi => by have h2 := Hp4.out; omega)
    have Hof : Hid (OwnV ((x4.setCell ⟨p4, 0, none⟩ (.int .u64 (R0 : Int))).setCell ⟨p4, 1, none⟩ (.slice a2 l2 c2)) (.slice a2 l2 c2) evs) :=
      Ho4.out.frame ((fr_cell x4 _ _ _).trans (fr_cell _ _ _ _) (fun _ _ h => h)) (fun i hi h => by subst h; exact Hb4.out hi)
    have Hrow : Hid _ := two_set1 (two_set0 H4d.out (u := .int .u64 (R0 : Int))) (u := .slice a2 l2 c2)
    go_wp2
    refine bodyPost_ret (results_cell2 rfl rfl rfl (run_loadVar_row _ _ 25 _ _ (0, 0) _ Hrow.out Tryz.underlying25 rfl histSize)) rfl ?_
    exact ⟨⟨_, rfl, Hof.out.rd⟩, Hfin.out⟩
  · have hC0 : ((C2 : Int) == 0) = false := by rw [beq_eq_false_iff_ne]; omega
    have hC1 : ((C2 : Int) != 0) = true := by rw [bne_iff_ne]; omega
    have HRR : Hid ((R0, R1, R2) = (0, [], C2)) := by show _ = _; rw [HR.out]; unfold backF; rw [if_neg (by rw [← HC.out]; exact h0), ← HC.out]
    simp only [Prod.mk.injEq] at HRR
    obtain ⟨rfl, rfl, rfl⟩ := HRR.out
    clear HRR h0
    obtain ⟨e0', e1'⟩ : x1.cell? ⟨p4, 0, none⟩ = some (.int .u64 0) ∧ x1.cell? ⟨p4, 1, none⟩ = some (.slice none 0 0) := ⟨two_cell0 H4b.out, two_cell1 H4b.out⟩
    have f0' : x1.frozen? ⟨p4, 0, none⟩ = false := two_free H4b.out 0
    have f1' : x1.frozen? ⟨p4, 1, none⟩ = false := two_free H4b.out 1
    have Hfin : Hid (Fr w ((x1.setCell ⟨p4, 0, none⟩ (.int .u64 0)).setCell ⟨p4, 1, none⟩ (.slice none 0 0)) (fun _ => False)) := Hx1.out.newer ((fr_cell x1 _ _ _).trans (fr_cell _ _ _ _) (fun _ _ h => h)) (fun i hi => by have h2 := Hp4.out; omega)
    have Hrow : Hid _ := two_set1 (two_set0 H4b.out (u := .int .u64 0)) (u := .slice none 0 0)
    go_wp2
    refine bodyPost_ret (results_cell2 rfl rfl rfl (run_loadVar_row _ _ 25 _ _ (0, 0) _ Hrow.out Tryz.underlying25 rfl histSize)) rfl ?_
    exact ⟨⟨_, rfl, RdV.nil _⟩, Hfin.out⟩

end Go.Proofs.YtnffjafddbbjaaaGreatDoor
