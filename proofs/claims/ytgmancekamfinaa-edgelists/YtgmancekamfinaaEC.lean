/-
  What the statements ask of edge's functions, as one condition; and the laws' own first test under it.
-/
import Derived.Test.YtgmancekamfinaaERise
namespace Go.Proofs.Ytgmancekamfinaa
open Go.RowKit

structure EC : Prop where
  of_ : ∀ (a b : Nat) (w : World), a < 4294967296 → b < 4294967296 → Calls Try.prog 8 #[.int .u32 (a : Int), .int .u32 (b : Int)] w fun e w' =>
    e = .returned (.tuple #[if a = b then edgeV (0, 0) else edgeV (min a b, max a b), .bool (decide (a ≠ b))]) ∧ Fr w w' (fun _ => False)
  right : ∀ (u v n : Nat) (w : World), u < 4294967296 → v < 4294967296 → n < 18446744073709551616 → Calls Try.prog 9 #[edgeV (u, v), .int .u64 (n : Int)] w fun e w' => e = .returned (.bool (eRight u v n)) ∧ Fr w w' (fun _ => False)
  less : ∀ (a b : Nat × Nat) (w : World), a.1 < 4294967296 → a.2 < 4294967296 → b.1 < 4294967296 → b.2 < 4294967296 → Calls Try.prog 11 #[edgeV a, edgeV b] w fun e w' => e = .returned (.bool (eLess a b)) ∧ Fr w w' (fun _ => False)
  rising : ∀ (v : Value) (es : List (Nat × Nat)) (w : World), RdE w v es → (∀ e ∈ es, e.1 < 4294967296 ∧ e.2 < 4294967296) → es.length ≤ 1000000 → Calls Try.prog 13 #[v] w fun e w' => e = .returned (.bool (eRising es)) ∧ Fr w w' (fun _ => False)
  before : ∀ (s t : Int) (a b : Nat × Nat) (x y : Bool) (w : World), -9223372036854775808 ≤ s → s ≤ 9223372036854775807 → -9223372036854775808 ≤ t → t ≤ 9223372036854775807 → a.1 < 4294967296 → a.2 < 4294967296 → b.1 < 4294967296 → b.2 < 4294967296 →
    Calls Try.prog 15 #[eventV s a x, eventV t b y] w fun e w' => e = .returned (.bool (eBefore s t a b)) ∧ Fr w w' (fun _ => False)

/-- Edges that are written out. -/
theorem elit (w : World) (es : List (Nat × Nat)) (C : Array Value) (n : Nat) (hC : C = (erow es).toArray) (hn : n = es.length) (h : es.length ≤ 1000) : RdE (w.alloc (.cells C 26)) (.slice (some ⟨w.heap.size, 0, none⟩) n n) es := by
  subst hC hn
  exact holdsN_lit 2 w 26 es.length (erow es) (erow_length es) h

set_option maxRecDepth 4000 in
set_option maxHeartbeats 1600000 in
theorem known_any (M : EC) (w : World) : Calls Try.prog 7 #[] w fun e w' => e = .returned (.bool true) ∧ Fr w w' (fun _ => False) := by
  go_enter Try.func7, Try.ntmps7
  go_wp2_with fail
  refine (M.of_ 3 1 w (by decide) (by decide)).mono ?_
  rw [if_neg (by decide), decide_eq_true (by decide), show edgeV (min 3 1, max 3 1) = .agg #[.int .u32 1, .int .u32 3] from rfl]
  rintro e w1 ⟨rfl, hf1⟩
  have Hf1 : Hid (Fr w w1 (fun _ => False)) := hf1
  clear hf1
  go_wp2_with fail
  refine (M.of_ 2 2 _ (by decide) (by decide)).mono ?_
  rw [if_pos rfl, decide_eq_false (by decide), show edgeV (0, 0) = .agg #[.int .u32 0, .int .u32 0] from rfl]
  rintro e w2 ⟨rfl, hf2⟩
  obtain ⟨p, hp⟩ : ∃ p, p = w1.heap.size := ⟨_, rfl⟩
  have Hc : Hid (∀ z, Fr w2 z (fun _ => False) → z.cell? ⟨p, 0, none⟩ = some (.int .u32 1) ∧ z.cell? ⟨p, 1, none⟩ = some (.int .u32 3)) := fun z hz => by
    have h1 : (w1.alloc (.cells #[.int .u32 1, .int .u32 3] 26)).heap[p]? = some (.cells #[.int .u32 1, .int .u32 3] 26 (0, 0)) := by rw [hp]; exact heap_alloc_new _ _
    have h2 := hz.kept (hf2.kept h1 (fun h => h)) (fun h => h)
    exact ⟨two_cell0 h2, two_cell1 h2⟩
  have Hf2 : Hid (Fr w w2 (fun _ => False)) := (Hf1.out.alloc _).none hf2
  rw [← hp]
  clear hf2 hp
  obtain ⟨c0, c1⟩ := Hc.out (w2.alloc (.cells #[.int .u32 0, .int .u32 0] 26)) ((Fr.refl w2 _).alloc _)
  go_wp2_with fail
  refine (M.right 1 3 4 _ (by decide) (by decide) (by decide)).mono ?_
  rw [show eRight 1 3 4 = true by decide]
  rintro e w3 ⟨rfl, hf3⟩
  have hf23 : Fr w2 w3 (fun _ => False) := ((Fr.refl w2 (fun _ => False)).alloc _).none hf3
  have Hf23 : Hid (Fr w2 w3 (fun _ => False)) := hf23
  clear c0 c1 hf3 hf23
  obtain ⟨c0, c1⟩ := Hc.out w3 Hf23.out
  go_wp2_with fail
  refine (M.right 1 3 3 _ (by decide) (by decide) (by decide)).mono ?_
  rw [show eRight 1 3 3 = false by decide]
  rintro e w4 ⟨rfl, hf4⟩
  have Hf24 : Hid (Fr w2 w4 (fun _ => False)) := Hf23.out.none hf4
  clear c0 c1 hf4
  obtain ⟨c0, c1⟩ := Hc.out w4 Hf24.out
  go_wp2_with fail
  refine (M.less (0, 9) (1, 3) _ (by decide) (by decide) (by decide) (by decide)).mono ?_
  rw [show eLess (0, 9) (1, 3) = true by decide]
  rintro e w5 ⟨rfl, hf5⟩
  have Hf25 : Hid (Fr w2 w5 (fun _ => False)) := Hf24.out.none hf5
  clear c0 c1 hf5
  obtain ⟨c0, c1⟩ := Hc.out w5 Hf25.out
  go_wp2_with fail
  refine (M.rising _ [(0, 1), (1, 3)] _ (elit w5 [(0, 1), (1, 3)] _ _ rfl rfl (by decide)) (by decide) (by decide)).mono ?_
  rw [show eRising [(0, 1), (1, 3)] = true by decide]
  rintro e w6 ⟨rfl, hf6⟩
  have Hf26 : Hid (Fr w2 w6 (fun _ => False)) := (Hf25.out.alloc _).none hf6
  clear c0 c1 hf6
  obtain ⟨c0, c1⟩ := Hc.out w6 Hf26.out
  go_wp2_with fail
  refine (M.rising _ [(1, 3), (1, 3)] _ (elit w6 [(1, 3), (1, 3)] _ _ rfl rfl (by decide)) (by decide) (by decide)).mono ?_
  rw [show eRising [(1, 3), (1, 3)] = false by decide]
  rintro e w7 ⟨rfl, hf7⟩
  have Hf27 : Hid (Fr w2 w7 (fun _ => False)) := (Hf26.out.alloc _).none hf7
  clear c0 c1 hf7
  obtain ⟨c0, c1⟩ := Hc.out w7 Hf27.out
  go_wp2_with fail
  refine (M.before 1 2 (1, 3) (0, 0) false false _ (by decide) (by decide) (by decide) (by decide) (by decide) (by decide) (by decide) (by decide)).mono ?_
  rw [show eBefore 1 2 (1, 3) (0, 0) = true by decide]
  rintro e w8 ⟨rfl, hf8⟩
  have Hf8 : Hid (Fr w w8 (fun _ => False)) := (Hf2.out.none Hf27.out).none hf8
  clear c0 c1 hf8
  go_wp2
  go_ret
  exact ⟨rfl, Hf8.out⟩

end Go.Proofs.Ytgmancekamfinaa
