/-
  What the statements ask of snap's functions, as one condition; and the laws' own first test under it.
-/
import Derived.Test.YthdlhdeaeaahoaaJ2
import Derived.Test.YthdlhdeaeaahoaaXHist
import Derived.Deep.CutRange
namespace Go.Proofs.Ythdlhdeaeaahoaa
open Go.RowKit

structure SI : Prop where
  at_ : ∀ (n : Nat) (v : Value) (evs : List Ev) (t : Int) (w : World), RdV w v evs → n < 18446744073709551616 → evs.length ≤ 100000 → (∀ x ∈ evs, EvFit x) → -9223372036854775808 ≤ t → t ≤ 9223372036854775807 → Calls Try.prog 11 #[histV n v, .int .i64 t] w fun r w' =>
    (∃ v', r = .returned (.tuple #[v', .int .i64 ((atF n evs t).2 : Int)]) ∧ RdE w' v' (atF n evs t).1) ∧ Fr w w' (fun _ => False)
  after : ∀ (n : Nat) (v : Value) (evs : List Ev) (k : Int) (w : World), RdV w v evs → n < 18446744073709551616 → evs.length ≤ 100000 → (∀ x ∈ evs, EvFit x) → -9223372036854775808 ≤ k → k ≤ 9223372036854775807 → Calls Try.prog 15 #[histV n v, .int .i64 k] w fun r w' =>
    (∃ v', r = .returned (.tuple #[v', .int .i64 ((afterF n evs k).2 : Int)]) ∧ RdE w' v' (afterF n evs k).1) ∧ Fr w w' (fun _ => False)
  turn : ∀ (v : Value) (es : List Eg) (x : Ev) (w : World), RdE w v es → es.length ≤ 100000 → (∀ e ∈ es, EgFit e) → EvFit x → Calls Try.prog 18 #[v, evV x] w fun r w' =>
    (∃ v', r = .returned (.tuple #[v', .bool (turnF es x.2.1 x.2.2).isSome]) ∧ RdE w' v' ((turnF es x.2.1 x.2.2).getD [])) ∧ Fr w w' (fun _ => False)
  degree : ∀ (v : Value) (es : List Eg) (x : Nat) (w : World), RdE w v es → es.length ≤ 100000 → (∀ e ∈ es, EgFit e) → x < 4294967296 → Calls Try.prog 22 #[v, .int .u32 (x : Int)] w fun r w' =>
    r = .returned (.int .i64 ((degF es x : Nat) : Int)) ∧ Fr w w' (fun _ => False)
  has : ∀ (v : Value) (es : List Eg) (e : Eg) (w : World), RdE w v es → es.length ≤ 100000 → (∀ e ∈ es, EgFit e) → EgFit e → Calls Try.prog 20 #[v, edgeV e] w fun r w' =>
    r = .returned (.bool (decide (e ∈ es))) ∧ Fr w w' (fun _ => False)

def kB1 : Ev := (1, (0, 1), true)
def kB2 : Ev := (1, (1, 2), true)
def kB3 : Ev := (2, (0, 1), false)
def kB4 : Ev := (0, (0, 1), false)
def kB5 : Ev := (0, (0, 1), true)
theorem kBFit : ∀ x ∈ [kB1, kB2, kB3, kB4, kB5], EvFit x := by
  intro x hx
  simp only [List.mem_cons, List.not_mem_nil, or_false] at hx
  rcases hx with rfl | rfl | rfl | rfl | rfl <;> exact ⟨⟨by decide, by decide⟩, by decide, by decide⟩
theorem kBFit3 : ∀ x ∈ [kB1, kB2, kB3], EvFit x := fun x hx => kBFit x (by simp only [List.mem_cons, List.not_mem_nil, or_false] at hx ⊢; rcases hx with h | h | h <;> simp [h])
theorem kEFit : ∀ e ∈ [((0, 1) : Eg), (1, 2)], EgFit e := by
  intro x hx
  simp only [List.mem_cons, List.not_mem_nil, or_false] at hx
  rcases hx with rfl | rfl <;> exact ⟨by decide, by decide⟩
theorem kEFit2 : ∀ e ∈ [((1, 2) : Eg)], EgFit e := fun x hx => kEFit x (by simp only [List.mem_cons, List.not_mem_nil, or_false] at hx ⊢; exact .inr hx)
theorem kAt : atF 3 [kB1, kB2, kB3] 1 = ([(0, 1), (1, 2)], 0) := by decide
theorem kAfter : afterF 3 [kB1, kB2, kB3] 3 = ([(1, 2)], 0) := by decide
theorem kTurn1 : turnF [(0, 1), (1, 2)] kB4.2.1 kB4.2.2 = some [(1, 2)] := by decide
theorem kTurn2 : turnF [(0, 1), (1, 2)] kB5.2.1 kB5.2.2 = none := by decide

set_option maxRecDepth 4000 in
set_option maxHeartbeats 1600000 in
theorem sknown_any (M : SI) (w : World) : Calls Try.prog 7 #[] w fun e w' => e = .returned (.bool true) ∧ Fr w w' (fun _ => False) := by
  go_enter Try.func7, Try.ntmps7
  go_upto_region 3 with fail
  obtain ⟨pE, hpE⟩ : ∃ p, p = w.heap.size := ⟨_, rfl⟩
  obtain ⟨pF, hpF⟩ : ∃ p, p = pE + 1 := ⟨_, rfl⟩
  obtain ⟨pS, hpS⟩ : ∃ p, p = pF + 1 := ⟨_, rfl⟩
  obtain ⟨pH, hpH⟩ : ∃ p, p = pS + 1 := ⟨_, rfl⟩
  obtain ⟨w1, hw1⟩ : ∃ x, x = (((w.alloc (.cells #[.int .u32 0, .int .u32 1] 48)).alloc (.cells #[.int .u32 1, .int .u32 2] 48)).alloc (.cells #[.int .i64 1, .int .u32 0, .int .u32 1, .bool true, .int .i64 1, .int .u32 1, .int .u32 2, .bool true, .int .i64 2, .int .u32 0, .int .u32 1, .bool false] 53)).alloc (.cells #[.int .u64 3, .slice (some ⟨w.heap.size + 1 + 1, 0, none⟩) 3 3] 25) := ⟨_, rfl⟩
  rw [← hw1, ← hpE, ← hpF, ← hpS, ← hpH]
  have HE : Hid (∀ z, Fr w1 z (fun _ => False) → z.heap[pE]? = some (.cells #[.int .u32 0, .int .u32 1] 48 (0, 0))) := fun z hz => hz.kept (by rw [hw1, hpE]; exact blk_alloc _ (blk_alloc _ (blk_alloc _ (heap_alloc_new _ _)))) (fun h => h)
  have HF : Hid (∀ z, Fr w1 z (fun _ => False) → z.heap[pF]? = some (.cells #[.int .u32 1, .int .u32 2] 48 (0, 0))) := fun z hz => hz.kept (by
    have h0 := heap_alloc_new (w.alloc (.cells #[.int .u32 0, .int .u32 1] 48)) (.cells #[.int .u32 1, .int .u32 2] 48)
    have e : (w.alloc (.cells #[.int .u32 0, .int .u32 1] 48)).heap.size = pF := by rw [hpF, hpE]; simp
    rw [e] at h0
    rw [hw1]
    exact blk_alloc _ (blk_alloc _ h0)) (fun h => h)
  have HrS : Hid (RdV w1 (.slice (some ⟨pS, 0, none⟩) 3 3) [kB1, kB2, kB3]) := by
    show RdV _ _ _
    have h1 : RdV (((w.alloc (.cells #[.int .u32 0, .int .u32 1] 48)).alloc (.cells #[.int .u32 1, .int .u32 2] 48)).alloc (.cells #[.int .i64 1, .int .u32 0, .int .u32 1, .bool true, .int .i64 1, .int .u32 1, .int .u32 2, .bool true, .int .i64 2, .int .u32 0, .int .u32 1, .bool false] 53)) (.slice (some ⟨((w.alloc (.cells #[.int .u32 0, .int .u32 1] 48)).alloc (.cells #[.int .u32 1, .int .u32 2] 48)).heap.size, 0, none⟩) 3 3) [kB1, kB2, kB3] := holdsN_lit 4 _ 53 3 (vrow [kB1, kB2, kB3]) rfl (by omega)
    have e : ((w.alloc (.cells #[.int .u32 0, .int .u32 1] 48)).alloc (.cells #[.int .u32 1, .int .u32 2] 48)).heap.size = pS := by rw [hpS, hpF, hpE]; simp
    rw [e] at h1
    rw [hw1]
    exact h1.keep ((Fr.refl _ _).alloc _)
  have HH : Hid (∀ z, Fr w1 z (fun _ => False) → z.heap[pH]? = some (.cells #[.int .u64 3, .slice (some ⟨pS, 0, none⟩) 3 3] 25 (0, 0))) := fun z hz => hz.kept (by
    have := heap_alloc_new (((w.alloc (.cells #[.int .u32 0, .int .u32 1] 48)).alloc (.cells #[.int .u32 1, .int .u32 2] 48)).alloc (.cells #[.int .i64 1, .int .u32 0, .int .u32 1, .bool true, .int .i64 1, .int .u32 1, .int .u32 2, .bool true, .int .i64 2, .int .u32 0, .int .u32 1, .bool false] 53)) (.cells #[.int .u64 3, .slice (some ⟨w.heap.size + 1 + 1, 0, none⟩) 3 3] 25)
    rw [hw1, hpH, hpS, hpF, hpE]
    simpa using this) (fun h => h)
  have Hw1 : Hid (Fr w w1 (fun _ => False)) := by show Fr _ _ _; rw [hw1]; exact ((((Fr.refl _ _).alloc _).alloc _).alloc _).alloc _
  clear hpE hpF hpS hpH hw1
  obtain ⟨ca, cb⟩ : w1.cell? ⟨pH, 0, none⟩ = some (.int .u64 3) ∧ w1.cell? ⟨pH, 1, none⟩ = some (.slice (some ⟨pS, 0, none⟩) 3 3) := ⟨two_cell0 (HH.out w1 (Fr.refl _ _)), two_cell1 (HH.out w1 (Fr.refl _ _))⟩
  go_wp2_with fail
  refine (M.at_ 3 _ [kB1, kB2, kB3] 1 _ HrS.out (by decide) (by decide) kBFit3 (by decide) (by decide)).mono ?_
  rw [kAt]
  rintro r x1 ⟨⟨v1, rfl, hv1⟩, g⟩
  have G1 : Hid (Fr w1 x1 (fun _ => False)) := g
  obtain ⟨a1, c1, rfl, hc1⟩ : ∃ a c, v1 = .slice a 2 c ∧ 2 ≤ c := hv1.form
  have HA : Hid (∀ z, Fr x1 z (fun _ => False) → RdE z (.slice a1 2 c1) [(0, 1), (1, 2)]) := fun z hz => RdE.keep hv1 hz
  clear g hv1 ca cb
  obtain ⟨ca, cb⟩ : x1.cell? ⟨pH, 0, none⟩ = some (.int .u64 3) ∧ x1.cell? ⟨pH, 1, none⟩ = some (.slice (some ⟨pS, 0, none⟩) 3 3) := ⟨two_cell0 (HH.out x1 G1.out), two_cell1 (HH.out x1 G1.out)⟩
  go_wp2_with fail
  refine (M.after 3 _ [kB1, kB2, kB3] 3 _ (HrS.out.keep G1.out) (by decide) (by decide) kBFit3 (by decide) (by decide)).mono ?_
  rw [kAfter]
  rintro r x2 ⟨⟨v2, rfl, hv2⟩, g⟩
  have G12 : Hid (Fr x1 x2 (fun _ => False)) := g
  have G2 : Hid (Fr w1 x2 (fun _ => False)) := G1.out.none g
  obtain ⟨a2, c2, rfl, hc2⟩ : ∃ a c, v2 = .slice a 1 c ∧ 1 ≤ c := hv2.form
  have HB : Hid (∀ z, Fr x2 z (fun _ => False) → RdE z (.slice a2 1 c2) [(1, 2)]) := fun z hz => RdE.keep hv2 hz
  clear g hv2 ca cb
  obtain ⟨ea, eb⟩ : x2.cell? ⟨pE, 0, none⟩ = some (.int .u32 0) ∧ x2.cell? ⟨pE, 1, none⟩ = some (.int .u32 1) := ⟨two_cell0 (HE.out x2 G2.out), two_cell1 (HE.out x2 G2.out)⟩
  go_wp2_with fail
  refine (M.turn _ [(0, 1), (1, 2)] kB4 _ (HA.out x2 G12.out) (by decide) kEFit (kBFit _ (by simp))).mono ?_
  rw [kTurn1]
  rintro r x3 ⟨⟨v3, rfl, hv3⟩, g⟩
  have G23 : Hid (Fr x2 x3 (fun _ => False)) := g
  have G3 : Hid (Fr w1 x3 (fun _ => False)) := G2.out.none g
  obtain ⟨a3, c3, rfl, hc3⟩ : ∃ a c, v3 = .slice a 1 c ∧ 1 ≤ c := hv3.form
  clear g hv3 ea eb
  obtain ⟨ea, eb⟩ : x3.cell? ⟨pE, 0, none⟩ = some (.int .u32 0) ∧ x3.cell? ⟨pE, 1, none⟩ = some (.int .u32 1) := ⟨two_cell0 (HE.out x3 G3.out), two_cell1 (HE.out x3 G3.out)⟩
  go_wp2_with fail
  refine (M.turn _ [(0, 1), (1, 2)] kB5 _ (HA.out x3 (G12.out.none G23.out)) (by decide) kEFit (kBFit _ (by simp))).mono ?_
  rw [kTurn2]
  rintro r x4 ⟨⟨v4, rfl, hv4⟩, g⟩
  have G24 : Hid (Fr x2 x4 (fun _ => False)) := G23.out.none g
  have G4 : Hid (Fr w1 x4 (fun _ => False)) := G3.out.none g
  obtain ⟨a4, c4, rfl, hc4⟩ : ∃ a c, v4 = .slice a 0 c ∧ 0 ≤ c := hv4.form
  clear g hv4 ea eb
  obtain ⟨ea, eb⟩ : x4.cell? ⟨pE, 0, none⟩ = some (.int .u32 0) ∧ x4.cell? ⟨pE, 1, none⟩ = some (.int .u32 1) := ⟨two_cell0 (HE.out x4 G4.out), two_cell1 (HE.out x4 G4.out)⟩
  go_wp2_with fail
  refine (M.degree _ [(0, 1), (1, 2)] 1 _ (HA.out x4 (G12.out.none G24.out)) (by decide) kEFit (by decide)).mono ?_
  rw [show degF [(0, 1), (1, 2)] 1 = 2 by decide]
  rintro r x5 ⟨rfl, g⟩
  have G25 : Hid (Fr x2 x5 (fun _ => False)) := G24.out.none g
  clear g ea eb
  obtain ⟨fa, fb⟩ : x5.cell? ⟨pF, 0, none⟩ = some (.int .u32 1) ∧ x5.cell? ⟨pF, 1, none⟩ = some (.int .u32 2) := ⟨two_cell0 (HF.out x5 (G2.out.none G25.out)), two_cell1 (HF.out x5 (G2.out.none G25.out))⟩
  go_wp2_with fail
  refine (M.has _ [(0, 1), (1, 2)] (1, 2) _ (HA.out x5 (G12.out.none G25.out)) (by decide) kEFit (kEFit _ (by simp))).mono ?_
  rw [show decide (((1, 2) : Eg) ∈ [((0, 1) : Eg), (1, 2)]) = true by decide]
  rintro r x6 ⟨rfl, g⟩
  have G26 : Hid (Fr x2 x6 (fun _ => False)) := G25.out.none g
  clear g fa fb
  obtain ⟨ea, eb⟩ : x6.cell? ⟨pE, 0, none⟩ = some (.int .u32 0) ∧ x6.cell? ⟨pE, 1, none⟩ = some (.int .u32 1) := ⟨two_cell0 (HE.out x6 (G2.out.none G26.out)), two_cell1 (HE.out x6 (G2.out.none G26.out))⟩
  go_wp2_with fail
  refine (M.has _ [(1, 2)] (0, 1) _ (HB.out x6 G26.out) (by decide) kEFit2 (kEFit _ (by simp))).mono ?_
  rw [show decide (((0, 1) : Eg) ∈ [((1, 2) : Eg)]) = false by decide]
  rintro r x7 ⟨rfl, g⟩
  have Hfo : Hid (Fr w x7 (fun _ => False)) := Hw1.out.none (G2.out.none (G26.out.none g))
  clear g ea eb
  go_wp2_with fail
  go_ret
  exact ⟨rfl, Hfo.out⟩

end Go.Proofs.Ythdlhdeaeaahoaa
