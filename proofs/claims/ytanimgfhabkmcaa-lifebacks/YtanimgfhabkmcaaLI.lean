/-
  What the statements ask of life's functions, as one condition; and the laws' own first test under it.
-/
import Derived.Test.YtanimgfhabkmcaaLLives
import Derived.Test.YtanimgfhabkmcaaJ3
import Derived.Deep.CutRange
namespace Go.Proofs.Ytanimgfhabkmcaa
open Go.RowKit

structure LI : Prop where
  of_ : ∀ (n : Nat) (v : Value) (evs : List Ev) (w : World), RdV w v evs → n < 18446744073709551616 → evs.length ≤ 100000 → (∀ x ∈ evs, EvFit x) → Calls Try.prog 11 #[histV n v] w fun r w' =>
    (∃ v', r = .returned (.tuple #[v', .int .i64 ((livesF n evs).2 : Int)]) ∧ RdL w' v' (livesF n evs).1) ∧ Fr w w' (fun _ => False)
  back : ∀ (n : Nat) (v : Value) (l : List Lf) (w : World), RdL w v l → n < 18446744073709551616 → l.length ≤ 100000 → (∀ x ∈ l, LfFit x) → Calls Try.prog 17 #[.int .u64 (n : Int), v] w fun r w' =>
    (∃ v', r = .returned (.tuple #[histV (backF n l).1 v', .int .i64 ((backF n l).2.2 : Int)]) ∧ RdV w' v' (backF n l).2.1) ∧ Fr w w' (fun _ => False)
  check : ∀ (n : Nat) (v : Value) (l : List Lf) (w : World), RdL w v l → n < 18446744073709551616 → l.length ≤ 100000 → (∀ x ∈ l, LfFit x) → Calls Try.prog 15 #[.int .u64 (n : Int), v] w fun r w' =>
    r = .returned (.tuple #[.int .i64 ((lifeCheckF n l).1 : Int), .int .i64 ((lifeCheckF n l).2 : Int)]) ∧ Fr w w' (fun _ => False)
  there : ∀ (x : Lf) (t : Int) (w : World), LfFit x → -9223372036854775808 ≤ t → t ≤ 9223372036854775807 → Calls Try.prog 20 #[lifeV x, .int .i64 t] w fun r w' =>
    r = .returned (.bool (thereL t x)) ∧ Fr w w' (fun _ => False)

def kA1 : Ev := (1, (0, 1), true)
def kA2 : Ev := (3, (0, 1), false)
def kA3 : Ev := (4, (0, 1), true)
theorem kAFit : ∀ x ∈ [kA1, kA2, kA3], EvFit x := by
  intro x hx
  simp only [List.mem_cons, List.not_mem_nil, or_false] at hx
  rcases hx with rfl | rfl | rfl <;> exact ⟨⟨by decide, by decide⟩, by decide, by decide⟩
def kL1 : Lf := ((0, 1), 1, 3)
def kL2 : Lf := ((0, 1), 4, -1)
def kL3 : Lf := ((0, 1), 3, -1)
theorem kLFit : ∀ x ∈ [kL1, kL2, kL3], LfFit x := by
  intro x hx
  simp only [List.mem_cons, List.not_mem_nil, or_false] at hx
  rcases hx with rfl | rfl | rfl <;> exact ⟨⟨by decide, by decide⟩, ⟨by decide, by decide⟩, by decide, by decide⟩
theorem kLives : livesF 2 [kA1, kA2, kA3] = ([kL1, kL2], 0) := by decide
theorem kBack : backF 2 [kL1, kL2] = (2, [kA1, kA2, kA3], 0) := by decide
theorem kCheck : lifeCheckF 2 [kL1, kL3] = (1, 23) := by decide

set_option maxRecDepth 4000 in
set_option maxHeartbeats 1600000 in
theorem lknown_any (M : LI) (w : World) : Calls Try.prog 8 #[] w fun e w' => e = .returned (.bool true) ∧ Fr w w' (fun _ => False) := by
  go_enter Try.func8, Try.ntmps8
  go_upto_region 3 with fail
  obtain ⟨pE, hpE⟩ : ∃ p, p = w.heap.size := ⟨_, rfl⟩
  obtain ⟨pS, hpS⟩ : ∃ p, p = pE + 1 := ⟨_, rfl⟩
  obtain ⟨pH, hpH⟩ : ∃ p, p = pS + 1 := ⟨_, rfl⟩
  obtain ⟨w1, hw1⟩ : ∃ x, x = ((w.alloc (.cells #[.int .u32 0, .int .u32 1] 54)).alloc (.cells #[.int .i64 1, .int .u32 0, .int .u32 1, .bool true, .int .i64 3, .int .u32 0, .int .u32 1, .bool false, .int .i64 4, .int .u32 0, .int .u32 1, .bool true] 65)).alloc (.cells #[.int .u64 2, .slice (some ⟨w.heap.size + 1, 0, none⟩) 3 3] 25) := ⟨_, rfl⟩
  rw [← hw1, ← hpE, ← hpS, ← hpH]
  have HE : Hid (w1.heap[pE]? = some (.cells #[.int .u32 0, .int .u32 1] 54 (0, 0))) := by show _ = _; rw [hw1, hpE]; exact blk_alloc _ (blk_alloc _ (heap_alloc_new _ _))
  have HrS : Hid (RdV w1 (.slice (some ⟨pS, 0, none⟩) 3 3) [kA1, kA2, kA3]) := by
    show RdV _ _ _
    have h1 : RdV ((w.alloc (.cells #[.int .u32 0, .int .u32 1] 54)).alloc (.cells #[.int .i64 1, .int .u32 0, .int .u32 1, .bool true, .int .i64 3, .int .u32 0, .int .u32 1, .bool false, .int .i64 4, .int .u32 0, .int .u32 1, .bool true] 65)) (.slice (some ⟨(w.alloc (.cells #[.int .u32 0, .int .u32 1] 54)).heap.size, 0, none⟩) 3 3) [kA1, kA2, kA3] := holdsN_lit 4 _ 65 3 (vrow [kA1, kA2, kA3]) rfl (by omega)
    have e : (w.alloc (.cells #[.int .u32 0, .int .u32 1] 54)).heap.size = pS := by rw [hpS, hpE]; simp
    rw [e] at h1
    rw [hw1]
    exact h1.keep ((Fr.refl _ _).alloc _)
  have HH : Hid (w1.heap[pH]? = some (.cells #[.int .u64 2, .slice (some ⟨pS, 0, none⟩) 3 3] 25 (0, 0))) := by
    show _ = _
    have := heap_alloc_new ((w.alloc (.cells #[.int .u32 0, .int .u32 1] 54)).alloc (.cells #[.int .i64 1, .int .u32 0, .int .u32 1, .bool true, .int .i64 3, .int .u32 0, .int .u32 1, .bool false, .int .i64 4, .int .u32 0, .int .u32 1, .bool true] 65)) (.cells #[.int .u64 2, .slice (some ⟨w.heap.size + 1, 0, none⟩) 3 3] 25)
    rw [hw1, hpH, hpS, hpE]
    simpa using this
  have Hw1 : Hid (Fr w w1 (fun _ => False)) := by show Fr _ _ _; rw [hw1]; exact (((Fr.refl _ _).alloc _).alloc _).alloc _
  clear hpE hpS hpH hw1
  obtain ⟨ca, cb⟩ : w1.cell? ⟨pH, 0, none⟩ = some (.int .u64 2) ∧ w1.cell? ⟨pH, 1, none⟩ = some (.slice (some ⟨pS, 0, none⟩) 3 3) := ⟨two_cell0 HH.out, two_cell1 HH.out⟩
  go_wp2_with fail
  refine (M.of_ 2 _ [kA1, kA2, kA3] _ HrS.out (by decide) (by decide) kAFit).mono ?_
  rw [kLives]
  rintro r x1 ⟨⟨v1, rfl, hl1⟩, g⟩
  have G1 : Hid (Fr w1 x1 (fun _ => False)) := g
  obtain ⟨a1, c1, rfl, hc1⟩ : ∃ a c, v1 = .slice a 2 c ∧ 2 ≤ c := hl1.form
  have Hl1 : Hid (RdL x1 (.slice a1 2 c1) [kL1, kL2]) := hl1
  clear g hl1 ca cb
  go_wp2_with fail
  refine (M.back 2 _ [kL1, kL2] _ Hl1.out (by decide) (by decide) (fun x hx => kLFit x (by simp only [List.mem_cons, List.not_mem_nil, or_false] at hx ⊢; rcases hx with h | h; exact .inl h; exact .inr (.inl h)))).mono ?_
  rw [kBack]
  rintro r x2 ⟨⟨v2, rfl, hv2⟩, g⟩
  have G2 : Hid (Fr x1 x2 (fun _ => False)) := g
  obtain ⟨a2, c2, rfl, hc2⟩ : ∃ a c, v2 = .slice a 3 c ∧ 3 ≤ c := hv2.form
  clear g hv2
  have Hh : Hid (histV 2 (.slice a2 3 c2) = .agg #[.int .u64 2, .slice a2 3 c2]) := rfl
  dsimp only
  rw [Hh.out]
  go_upto_region 5 with fail
  obtain ⟨pB, hpB⟩ : ∃ p, p = x2.heap.size := ⟨_, rfl⟩
  obtain ⟨x3, hx3⟩ : ∃ x, x = x2.alloc (.cells #[.int .u64 2, .slice a2 3 c2] 25) := ⟨_, rfl⟩
  rw [← hx3, ← hpB]
  have HB : Hid (x3.heap[pB]? = some (.cells #[.int .u64 2, .slice a2 3 c2] 25 (0, 0))) := by show _ = _; rw [hx3, hpB]; exact heap_alloc_new _ _
  have G3 : Hid (Fr x1 x3 (fun _ => False)) := by show Fr _ _ _; rw [hx3]; exact G2.out.alloc _
  clear hpB hx3
  obtain ⟨ca, cb⟩ : x3.cell? ⟨pE, 0, none⟩ = some (.int .u32 0) ∧ x3.cell? ⟨pE, 1, none⟩ = some (.int .u32 1) := ⟨two_cell0 ((G1.out.none G3.out).kept HE.out (fun h => h)), two_cell1 ((G1.out.none G3.out).kept HE.out (fun h => h))⟩
  go_wp2_with fail
  have hlit : RdL (x3.alloc (.cells #[.int .u32 0, .int .u32 1, .int .i64 1, .int .i64 3, .int .u32 0, .int .u32 1, .int .i64 3, .int .i64 (-1)] 56)) (.slice (some ⟨x3.heap.size, 0, none⟩) 2 2) [kL1, kL3] := holdsN_lit 4 x3 56 2 (lrow [kL1, kL3]) rfl (by omega)
  refine (M.check 2 _ [kL1, kL3] _ hlit (by decide) (by decide) (fun x hx => kLFit x (by simp only [List.mem_cons, List.not_mem_nil, or_false] at hx ⊢; rcases hx with h | h; exact .inl h; exact .inr (.inr h)))).mono ?_
  rw [kCheck]
  rintro r x4 ⟨rfl, g⟩
  have G4 : Hid (Fr x3 x4 (fun _ => False)) := ((Fr.refl x3 (fun _ => False)).alloc _).none g
  clear g hlit ca cb
  obtain ⟨bk, off, cap, e3, hbk, hca⟩ := Hl1.out.get 0 kL1 rfl
  obtain ⟨bk', off', cap', e4, -, hcb⟩ := Hl1.out.get 1 kL2 rfl
  rw [e3] at e4
  simp only [Value.slice.injEq, Option.some.injEq, Addr.mk.injEq] at e3 e4
  obtain ⟨⟨rfl, rfl, -⟩, -, rfl⟩ := e4
  obtain ⟨rfl, -, rfl⟩ := e3
  have G14 : Hid (Fr x1 x4 (fun _ => False)) := G3.out.none G4.out
  have Hcells : Hid (∀ z, Fr x4 z (fun _ => False) → (z.cell? ⟨bk, off, none⟩ = some (.int .u32 0) ∧ z.cell? ⟨bk, off + 1, none⟩ = some (.int .u32 1) ∧ z.cell? ⟨bk, off + 2, none⟩ = some (.int .i64 1) ∧ z.cell? ⟨bk, off + 3, none⟩ = some (.int .i64 3)) ∧ (z.cell? ⟨bk, off + 4, none⟩ = some (.int .u32 0) ∧ z.cell? ⟨bk, off + 4 + 1, none⟩ = some (.int .u32 1) ∧ z.cell? ⟨bk, off + 4 + 2, none⟩ = some (.int .i64 4) ∧ z.cell? ⟨bk, off + 4 + 3, none⟩ = some (.int .i64 (-1)))) := fun z hz => by
    obtain ⟨h0, h1, h2, h3⟩ := hca z ((G14.out.none hz).mono (fun _ _ h => h.elim))
    obtain ⟨k0, k1, k2, k3⟩ := hcb z ((G14.out.none hz).mono (fun _ _ h => h.elim))
    simp only [Nat.zero_mul, Nat.add_zero, Nat.one_mul] at h0 h1 h2 h3 k0 k1 k2 k3
    exact ⟨⟨h0, h1, h2, h3⟩, k0, k1, k2, k3⟩
  obtain ⟨⟨h0, h1, h2, h3⟩, k0, k1, k2, k3⟩ := Hcells.out x4 (Fr.refl _ _)
  obtain ⟨cc, cd⟩ : x4.cell? ⟨pB, 0, none⟩ = some (.int .u64 2) ∧ x4.cell? ⟨pB, 1, none⟩ = some (.slice a2 3 c2) := ⟨two_cell0 (G4.out.kept HB.out (fun h => h)), two_cell1 (G4.out.kept HB.out (fun h => h))⟩
  clear hca hcb hbk
  go_wp2_with fail
  refine (M.there kL1 1 _ (kLFit _ (List.mem_cons_self ..)) (by decide) (by decide)).mono ?_
  rw [show thereL 1 kL1 = true by decide]
  rintro r x5 ⟨rfl, g⟩
  have G5 : Hid (Fr x4 x5 (fun _ => False)) := g
  clear g h0 h1 h2 h3 k0 k1 k2 k3 cc cd
  obtain ⟨⟨h0, h1, h2, h3⟩, k0, k1, k2, k3⟩ := Hcells.out x5 G5.out
  go_wp2_with fail
  refine (M.there kL1 3 _ (kLFit _ (List.mem_cons_self ..)) (by decide) (by decide)).mono ?_
  rw [show thereL 3 kL1 = false by decide]
  rintro r x6 ⟨rfl, g⟩
  have G6 : Hid (Fr x4 x6 (fun _ => False)) := G5.out.none g
  clear g h0 h1 h2 h3 k0 k1 k2 k3
  obtain ⟨⟨h0, h1, h2, h3⟩, k0, k1, k2, k3⟩ := Hcells.out x6 G6.out
  go_wp2_with fail
  refine (M.there kL2 99 _ (kLFit _ (List.mem_cons_of_mem _ (List.mem_cons_self ..))) (by decide) (by decide)).mono ?_
  rw [show thereL 99 kL2 = true by decide]
  rintro r x7 ⟨rfl, g⟩
  have Hfo : Hid (Fr w x7 (fun _ => False)) := (Hw1.out.none (G1.out.none G14.out)).none (G6.out.none g)
  clear g h0 h1 h2 h3 k0 k1 k2 k3
  go_wp2_with fail
  go_ret
  exact ⟨rfl, Hfo.out⟩

end Go.Proofs.Ytanimgfhabkmcaa
