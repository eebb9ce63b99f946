/-
  What the statements ask of history's functions, as one condition; and the laws' own first test under it.
-/
import Derived.Test.YtojeaggnknnnoaaXSeatM
import Derived.Test.YtojeaggnknnnoaaXRow
import Derived.Test.YtojeaggnknnnoaaTree
import Derived.Deep.CutRange
namespace Go.Proofs.Ytojeaggnknnnoaa
open Go.RowKit

/-- The last time; -1 of none. -/
def lastF (evs : List Ev) : Int := match evs.getLast? with
  | none => -1
  | some x => x.1

structure HI : Prop where
  check : ∀ (n : Nat) (v : Value) (evs : List Ev) (w : World), RdV w v evs → n < 18446744073709551616 → evs.length ≤ 1000000 → (∀ x ∈ evs, EvFit x) → Calls Try.prog 11 #[histV n v] w fun r w' =>
    r = .returned (.tuple #[.int .i64 ((checkF n evs).1 : Int), .int .i64 ((checkF n evs).2 : Int)]) ∧ Fr w w' (fun _ => False)
  same : ∀ (n m : Nat) (v u : Value) (la lb : List Ev) (w : World), RdV w v la → RdV w u lb → n < 18446744073709551616 → m < 18446744073709551616 → la.length ≤ 1000000 → lb.length ≤ 1000000 → (∀ x ∈ la, EvFit x) → (∀ x ∈ lb, EvFit x) → Calls Try.prog 13 #[histV n v, histV m u] w fun r w' =>
    r = .returned (.bool (decide (n = m ∧ la = lb))) ∧ Fr w w' (fun _ => False)
  upto : ∀ (n : Nat) (v : Value) (evs : List Ev) (t : Int) (w : World), RdV w v evs → SortedT evs → n < 18446744073709551616 → evs.length ≤ 1000000 → (∀ x ∈ evs, EvFit x) → -9223372036854775808 ≤ t → t ≤ 9223372036854775807 → Calls Try.prog 18 #[histV n v, .int .i64 t] w fun r w' =>
    r = .returned (.int .i64 ((uptoF evs t : Nat) : Int)) ∧ Fr w w' (fun _ => False)
  last : ∀ (n : Nat) (v : Value) (evs : List Ev) (w : World), RdV w v evs → n < 18446744073709551616 → evs.length ≤ 1000000 → (∀ x ∈ evs, EvFit x) → Calls Try.prog 16 #[histV n v] w fun r w' =>
    r = .returned (.int .i64 (lastF evs)) ∧ Fr w w' (fun _ => False)
  copy : ∀ (n : Nat) (v : Value) (evs : List Ev) (w : World), RdV w v evs → n < 18446744073709551616 → evs.length ≤ 1000000 → (∀ x ∈ evs, EvFit x) → Calls Try.prog 15 #[histV n v] w fun r w' =>
    (∃ v', r = .returned (histV n v') ∧ RdV w' v' evs ∧ (0 < evs.length → OwnV w' v' evs ∧ ∀ k, v'.ownBlock = some k → w.heap.size ≤ k)) ∧ Fr w w' (fun _ => False)

def kE1 : Ev := (1, (0, 1), true)
def kE2 : Ev := (2, (0, 1), true)
theorem kFit : ∀ x ∈ [kE1, kE2], EvFit x := by
  intro x hx
  simp only [List.mem_cons, List.not_mem_nil, or_false] at hx
  rcases hx with rfl | rfl
  · exact ⟨⟨by decide, by decide⟩, by decide, by decide⟩
  · exact ⟨⟨by decide, by decide⟩, by decide, by decide⟩
theorem kFit1 : ∀ x ∈ [kE1], EvFit x := fun x hx => kFit x (by simp only [List.mem_cons, List.not_mem_nil, or_false] at hx ⊢; exact .inl hx)
theorem kSort : SortedT [kE1] := List.pairwise_singleton _ _

set_option maxRecDepth 4000 in
set_option maxHeartbeats 1600000 in
theorem hknown_any (M : HI) (w : World) : Calls Try.prog 7 #[] w fun e w' => e = .returned (.bool true) ∧ Fr w w' (fun _ => False) := by
  go_enter Try.func7, Try.ntmps7
  go_upto_region 2 with fail
  obtain ⟨pS, hpS⟩ : ∃ p, p = w.heap.size := ⟨_, rfl⟩
  obtain ⟨p1, hp1⟩ : ∃ p, p = pS + 1 := ⟨_, rfl⟩
  obtain ⟨w1, hw1⟩ : ∃ x, x = (w.alloc (.cells #[.int .i64 1, .int .u32 0, .int .u32 1, .bool true, .int .i64 2, .int .u32 0, .int .u32 1, .bool true] 42)).alloc (.cells #[.int .u64 3, .slice (some ⟨w.heap.size, 0, none⟩) 2 2] 25) := ⟨_, rfl⟩
  rw [← hw1, ← hpS, ← hp1]
  have HrS : Hid (RdV w1 (.slice (some ⟨pS, 0, none⟩) 2 2) [kE1, kE2]) := by
    show RdV _ _ _
    have h1 : RdV (w.alloc (.cells #[.int .i64 1, .int .u32 0, .int .u32 1, .bool true, .int .i64 2, .int .u32 0, .int .u32 1, .bool true] 42)) (.slice (some ⟨w.heap.size, 0, none⟩) 2 2) [kE1, kE2] := holdsN_lit 4 w 42 2 (vrow [kE1, kE2]) rfl (by omega)
    rw [hw1, hpS]
    exact h1.keep ((Fr.refl _ _).alloc _)
  have H1 : Hid (w1.heap[p1]? = some (.cells #[.int .u64 3, .slice (some ⟨pS, 0, none⟩) 2 2] 25 (0, 0))) := by
    show _ = _
    have := heap_alloc_new (w.alloc (.cells #[.int .i64 1, .int .u32 0, .int .u32 1, .bool true, .int .i64 2, .int .u32 0, .int .u32 1, .bool true] 42)) (.cells #[.int .u64 3, .slice (some ⟨w.heap.size, 0, none⟩) 2 2] 25)
    rw [hw1, hp1, hpS]
    simpa using this
  have Hw1 : Hid (Fr w w1 (fun _ => False)) := by show Fr _ _ _; rw [hw1]; exact ((Fr.refl _ _).alloc _).alloc _
  have Hp1 : Hid (w.heap.size ≤ p1) := by show _ ≤ _; omega
  clear hpS hp1 hw1
  obtain ⟨ca, cb⟩ : w1.cell? ⟨p1, 0, none⟩ = some (.int .u64 3) ∧ w1.cell? ⟨p1, 1, none⟩ = some (.slice (some ⟨pS, 0, none⟩) 2 2) := ⟨two_cell0 H1.out, two_cell1 H1.out⟩
  go_wp2_with fail
  refine (M.check 3 _ [kE1, kE2] _ HrS.out (by decide) (by decide) kFit).mono ?_
  rw [show checkF 3 [kE1, kE2] = (1, 25) by decide]
  rintro r x1 ⟨rfl, g⟩
  have G1 : Hid (Fr w1 x1 (fun _ => False)) := g
  have H1b : Hid (x1.heap[p1]? = some (.cells #[.int .u64 3, .slice (some ⟨pS, 0, none⟩) 2 2] 25 (0, 0))) := g.kept H1.out (fun h => h)
  clear g ca cb
  obtain ⟨ca, cb⟩ : x1.cell? ⟨p1, 0, none⟩ = some (.int .u64 3) ∧ x1.cell? ⟨p1, 1, none⟩ = some (.slice (some ⟨pS, 0, none⟩) 2 2) := ⟨two_cell0 H1b.out, two_cell1 H1b.out⟩
  go_upto_region 4 with fail
  obtain ⟨p4, hp4⟩ : ∃ p, p = x1.heap.size := ⟨_, rfl⟩
  obtain ⟨w4, hw4⟩ : ∃ x, x = x1.alloc (.cells #[.int .u64 3, .slice (some ⟨pS, 0, none⟩) 2 2] 25) := ⟨_, rfl⟩
  rw [← hw4, ← hp4]
  have H4 : Hid (w4.heap[p4]? = some (.cells #[.int .u64 3, .slice (some ⟨pS, 0, none⟩) 2 2] 25 (0, 0))) := by show _ = _; rw [hw4, hp4]; exact heap_alloc_new _ _
  have H1c : Hid (w4.heap[p1]? = some (.cells #[.int .u64 3, .slice (some ⟨pS, 0, none⟩) 2 2] 25 (0, 0))) := by show _ = _; rw [hw4]; exact blk_alloc _ H1b.out
  have G4 : Hid (Fr w1 w4 (fun _ => False)) := by show Fr _ _ _; rw [hw4]; exact G1.out.alloc _
  have Hp4 : Hid (p1 < p4) := by show _ < _; rw [hp4]; exact lt_of_block H1b.out
  have Hp4w : Hid (w1.heap.size ≤ p4) := by show _ ≤ _; rw [hp4]; exact G1.out.size
  clear hp4 hw4 ca cb
  obtain ⟨ca, cb⟩ : w4.cell? ⟨p1, 0, none⟩ = some (.int .u64 3) ∧ w4.cell? ⟨p1, 1, none⟩ = some (.slice (some ⟨pS, 0, none⟩) 2 2) := ⟨two_cell0 H1c.out, two_cell1 H1c.out⟩
  obtain ⟨cc, cd⟩ : w4.cell? ⟨p4, 0, none⟩ = some (.int .u64 3) ∧ w4.cell? ⟨p4, 1, none⟩ = some (.slice (some ⟨pS, 0, none⟩) 2 2) := ⟨two_cell0 H4.out, two_cell1 H4.out⟩
  have fz := two_free H4.out 1
  go_upto_region 5 with fail
  have H4b := two_set1 H4.out (u := .slice (some ⟨pS, 0, none⟩) 1 2)
  have H1d : (w4.setCell ⟨p4, 1, none⟩ (.slice (some ⟨pS, 0, none⟩) 1 2)).heap[p1]? = some (.cells #[.int .u64 3, .slice (some ⟨pS, 0, none⟩) 2 2] 25 (0, 0)) := blk_set_other H1c.out (by have := Hp4.out; show p1 ≠ p4; omega)
  have G5 : Fr w1 (w4.setCell ⟨p4, 1, none⟩ (.slice (some ⟨pS, 0, none⟩) 1 2)) (fun _ => False) := G4.out.setCell _ (fun h => by have := Hp4w.out; dsimp only at h; omega) _
  clear ca cb cc cd fz
  generalize w4.setCell ⟨p4, 1, none⟩ (.slice (some ⟨pS, 0, none⟩) 1 2) = w5 at H4b H1d G5 ⊢
  have Hr2 : Hid (∀ z, Fr w5 z (fun _ => False) → RdV z (.slice (some ⟨pS, 0, none⟩) 2 2) [kE1, kE2]) := fun z hz => HrS.out.keep (G5.none hz)
  have Hr1 : Hid (∀ z, Fr w5 z (fun _ => False) → RdV z (.slice (some ⟨pS, 0, none⟩) 1 2) [kE1]) := fun z hz => (Hr2.out z hz).take rfl 1 (by omega)
  have Q1 : Hid (∀ z, Fr w5 z (fun _ => False) → z.heap[p1]? = some (.cells #[.int .u64 3, .slice (some ⟨pS, 0, none⟩) 2 2] 25 (0, 0))) := fun z hz => hz.kept H1d (fun h => h)
  have Q4 : Hid (∀ z, Fr w5 z (fun _ => False) → z.heap[p4]? = some (.cells #[.int .u64 3, .slice (some ⟨pS, 0, none⟩) 1 2] 25 (0, 0))) := fun z hz => hz.kept H4b (fun h => h)
  have Hw5 : Hid (Fr w w5 (fun _ => False)) := Hw1.out.none G5
  clear H4b H1d G5
  obtain ⟨cc, cd⟩ : w5.cell? ⟨p4, 0, none⟩ = some (.int .u64 3) ∧ w5.cell? ⟨p4, 1, none⟩ = some (.slice (some ⟨pS, 0, none⟩) 1 2) := ⟨two_cell0 (Q4.out w5 (Fr.refl _ _)), two_cell1 (Q4.out w5 (Fr.refl _ _))⟩
  go_wp2_with fail
  refine (M.check 3 _ [kE1] _ (Hr1.out w5 (Fr.refl _ _)) (by decide) (by decide) kFit1).mono ?_
  rw [show checkF 3 [kE1] = (0, 0) by decide]
  rintro r x0 ⟨rfl, g⟩
  have G0 : Hid (Fr w5 x0.drew (fun _ => False)) := g.drew
  clear g cc cd
  go_wp2_with fail
  refine wp_region_tree (fun _ => False) (.take 0 (.take 1 (.take 2 (.take 3 (.take 4 (.take 5 (.take 6 (.take 7 (.take 8 (.take 9 (.take 10 (.take 11 (.take 12 (.one 13 (.take 14 (.take 15 (.take 16 (.take 17 (.one 18 (.take 19 (.take 20 (.take 21 (.take 22 (.one 23 (.take 24 (.take 25 (.take 26 (.take 27 (.one 28 (.take 29 (.take 30 (.take 31 (.take 32 (.one 33 (.take 34 (.take 35 (.take 36 (.take 37 (.one 38 (.take 39 (.take 40 (.take 41 (.take 42 (.take 44 (.one 43 (.one 45 (.take 46 (.take 47 .nil)))))))))))))))))))))))))))))))))))))))))))))))) (by kernel_rfl) (by kernel_rfl) (by decide) (by kernel_rfl) ?_
  generalize x0.drew = x0 at G0 ⊢
  have kp4a : ∀ z, Fr x0 z (fun _ => False) → z.cell? ⟨p4, 0, none⟩ = some (.int .u64 3) := fun z hz => two_cell0 (Q4.out z (G0.out.none hz))
  have kp4b : ∀ z, Fr x0 z (fun _ => False) → z.cell? ⟨p4, 1, none⟩ = some (.slice (some ⟨pS, 0, none⟩) 1 2) := fun z hz => two_cell1 (Q4.out z (G0.out.none hz))
  repeat (refine wpT_take (v := ?_) rfl rfl (fun x hx => ?_) ?_; rotate_left; (focus (go_simp; with_reducible rfl)); simp only [Act.put, List.setIfInBounds_toArray, List.set_cons_zero, List.set_cons_succ])
  clear kp4a kp4b
  refine wpT_one rfl rfl (fun K hK => ?_)
  go_simp
  refine (M.same 3 3 _ _ [kE1] [kE1] _ (Hr1.out _ G0.out) (Hr1.out _ G0.out) (by decide) (by decide) (by decide) (by decide) kFit1 kFit1).mono ?_
  rw [show decide (3 = 3 ∧ [kE1] = [kE1]) = true by decide]
  rintro r x1 ⟨rfl, g⟩
  refine hK _ _ g ?_
  clear hK K
  have G1 : Hid (Fr w5 x1 (fun _ => False)) := G0.out.none g
  clear g
  have kp1a : ∀ z, Fr x1 z (fun _ => False) → z.cell? ⟨p1, 0, none⟩ = some (.int .u64 3) := fun z hz => two_cell0 (Q1.out z (G1.out.none hz))
  have kp1b : ∀ z, Fr x1 z (fun _ => False) → z.cell? ⟨p1, 1, none⟩ = some (.slice (some ⟨pS, 0, none⟩) 2 2) := fun z hz => two_cell1 (Q1.out z (G1.out.none hz))
  have kp4a : ∀ z, Fr x1 z (fun _ => False) → z.cell? ⟨p4, 0, none⟩ = some (.int .u64 3) := fun z hz => two_cell0 (Q4.out z (G1.out.none hz))
  have kp4b : ∀ z, Fr x1 z (fun _ => False) → z.cell? ⟨p4, 1, none⟩ = some (.slice (some ⟨pS, 0, none⟩) 1 2) := fun z hz => two_cell1 (Q4.out z (G1.out.none hz))
  repeat (refine wpT_take (v := ?_) rfl rfl (fun x hx => ?_) ?_; rotate_left; (focus (go_simp; with_reducible rfl)); simp only [Act.put, List.setIfInBounds_toArray, List.set_cons_zero, List.set_cons_succ])
  clear kp1a kp1b kp4a kp4b
  refine wpT_one rfl rfl (fun K hK => ?_)
  go_simp
  refine (M.same 3 3 _ _ [kE1] [kE1, kE2] _ (Hr1.out _ G1.out) (Hr2.out _ G1.out) (by decide) (by decide) (by decide) (by decide) kFit1 kFit).mono ?_
  rw [show decide (3 = 3 ∧ [kE1] = [kE1, kE2]) = false by decide]
  rintro r x2 ⟨rfl, g⟩
  refine hK _ _ g ?_
  clear hK K
  have G2 : Hid (Fr w5 x2 (fun _ => False)) := G1.out.none g
  clear g
  have kp4a : ∀ z, Fr x2 z (fun _ => False) → z.cell? ⟨p4, 0, none⟩ = some (.int .u64 3) := fun z hz => two_cell0 (Q4.out z (G2.out.none hz))
  have kp4b : ∀ z, Fr x2 z (fun _ => False) → z.cell? ⟨p4, 1, none⟩ = some (.slice (some ⟨pS, 0, none⟩) 1 2) := fun z hz => two_cell1 (Q4.out z (G2.out.none hz))
  repeat (refine wpT_take (v := ?_) rfl rfl (fun x hx => ?_) ?_; rotate_left; (focus (go_simp; with_reducible rfl)); simp only [Act.put, List.setIfInBounds_toArray, List.set_cons_zero, List.set_cons_succ])
  clear kp4a kp4b
  refine wpT_one rfl rfl (fun K hK => ?_)
  go_simp
  refine (M.upto 3 _ [kE1] 0 _ (Hr1.out _ G2.out) kSort (by decide) (by decide) kFit1 (by decide) (by decide)).mono ?_
  rw [show uptoF [kE1] 0 = 0 by decide]
  rintro r x3 ⟨rfl, g⟩
  refine hK _ _ g ?_
  clear hK K
  have G3 : Hid (Fr w5 x3 (fun _ => False)) := G2.out.none g
  clear g
  have kp4a : ∀ z, Fr x3 z (fun _ => False) → z.cell? ⟨p4, 0, none⟩ = some (.int .u64 3) := fun z hz => two_cell0 (Q4.out z (G3.out.none hz))
  have kp4b : ∀ z, Fr x3 z (fun _ => False) → z.cell? ⟨p4, 1, none⟩ = some (.slice (some ⟨pS, 0, none⟩) 1 2) := fun z hz => two_cell1 (Q4.out z (G3.out.none hz))
  repeat (refine wpT_take (v := ?_) rfl rfl (fun x hx => ?_) ?_; rotate_left; (focus (go_simp; with_reducible rfl)); simp only [Act.put, List.setIfInBounds_toArray, List.set_cons_zero, List.set_cons_succ])
  clear kp4a kp4b
  refine wpT_one rfl rfl (fun K hK => ?_)
  go_simp
  refine (M.upto 3 _ [kE1] 1 _ (Hr1.out _ G3.out) kSort (by decide) (by decide) kFit1 (by decide) (by decide)).mono ?_
  rw [show uptoF [kE1] 1 = 1 by decide]
  rintro r x4 ⟨rfl, g⟩
  refine hK _ _ g ?_
  clear hK K
  have G4 : Hid (Fr w5 x4 (fun _ => False)) := G3.out.none g
  clear g
  have kp4a : ∀ z, Fr x4 z (fun _ => False) → z.cell? ⟨p4, 0, none⟩ = some (.int .u64 3) := fun z hz => two_cell0 (Q4.out z (G4.out.none hz))
  have kp4b : ∀ z, Fr x4 z (fun _ => False) → z.cell? ⟨p4, 1, none⟩ = some (.slice (some ⟨pS, 0, none⟩) 1 2) := fun z hz => two_cell1 (Q4.out z (G4.out.none hz))
  repeat (refine wpT_take (v := ?_) rfl rfl (fun x hx => ?_) ?_; rotate_left; (focus (go_simp; with_reducible rfl)); simp only [Act.put, List.setIfInBounds_toArray, List.set_cons_zero, List.set_cons_succ])
  clear kp4a kp4b
  refine wpT_one rfl rfl (fun K hK => ?_)
  go_simp
  refine (M.last 3 _ [kE1] _ (Hr1.out _ G4.out) (by decide) (by decide) kFit1).mono ?_
  rw [show lastF [kE1] = 1 by decide]
  rintro r x5 ⟨rfl, g⟩
  refine hK _ _ g ?_
  clear hK K
  have G5 : Hid (Fr w5 x5 (fun _ => False)) := G4.out.none g
  clear g
  repeat (refine wpT_take (v := ?_) rfl rfl (fun x hx => ?_) ?_; rotate_left; (focus (go_simp; with_reducible rfl)); simp only [Act.put, List.setIfInBounds_toArray, List.set_cons_zero, List.set_cons_succ])
  refine wpT_one rfl rfl (fun K hK => ?_)
  go_simp
  refine (M.last 0 _ [] _ (RdV.nil _) (by decide) (by decide) (fun x hx => by cases hx)).mono ?_
  rw [show lastF [] = -1 by decide]
  rintro r x6 ⟨rfl, g⟩
  refine hK _ _ g ?_
  clear hK K
  have G6 : Hid (Fr w5 x6 (fun _ => False)) := G5.out.none g
  clear g
  have kp4a : ∀ z, Fr x6 z (fun _ => False) → z.cell? ⟨p4, 0, none⟩ = some (.int .u64 3) := fun z hz => two_cell0 (Q4.out z (G6.out.none hz))
  have kp4b : ∀ z, Fr x6 z (fun _ => False) → z.cell? ⟨p4, 1, none⟩ = some (.slice (some ⟨pS, 0, none⟩) 1 2) := fun z hz => two_cell1 (Q4.out z (G6.out.none hz))
  repeat (refine wpT_take (v := ?_) rfl rfl (fun x hx => ?_) ?_; rotate_left; (focus (go_simp; with_reducible rfl)); simp only [Act.put, List.setIfInBounds_toArray, List.set_cons_zero, List.set_cons_succ])
  clear kp4a kp4b
  refine wpT_one rfl rfl (fun K hK => ?_)
  go_simp
  refine (M.copy 3 _ [kE1] _ (Hr1.out _ G6.out) (by decide) (by decide) kFit1).mono ?_
  rintro r x7 ⟨⟨v7, rfl, hr7, -⟩, g⟩
  have Hr7 : Hid _ := hr7
  clear hr7
  refine hK _ _ g ?_
  clear hK K
  have G7 : Hid (Fr w5 x7 (fun _ => False)) := G6.out.none g
  clear g
  try simp only [Act.put, List.setIfInBounds_toArray, List.set_cons_zero, List.set_cons_succ]
  refine wpT_one rfl rfl (fun K hK => ?_)
  go_simp
  refine (M.same 3 3 _ _ [kE1] [kE1] _ Hr7.out (Hr1.out _ G7.out) (by decide) (by decide) (by decide) (by decide) kFit1 kFit1).mono ?_
  rw [show decide (3 = 3 ∧ [kE1] = [kE1]) = true by decide]
  rintro r x8 ⟨rfl, g⟩
  refine hK _ _ g ?_
  clear hK K
  have G8 : Hid (Fr w5 x8 (fun _ => False)) := G7.out.none g
  clear g
  repeat (refine wpT_take (v := ?_) rfl rfl (fun x hx => ?_) ?_; rotate_left; (focus (go_simp; with_reducible rfl)); simp only [Act.put, List.setIfInBounds_toArray, List.set_cons_zero, List.set_cons_succ])
  have Hfo : Hid (Fr w x8 (fun _ => False)) := Hw5.out.none G8.out
  unfold wpT
  go_wp2_with fail
  go_ret
  exact ⟨rfl, Hfo.out⟩

end Go.Proofs.Ytojeaggnknnnoaa
