/-
  What the statements ask of merge's three functions, as one condition; and the laws' own first test under it.
-/
import Derived.Test.YtjjanlpkhoeejaaRInts
import Derived.Test.YtjjanlpkhoeejaaPSkew
namespace Go.Proofs.Ytjjanlpkhoeejaa
open Go.RowKit

def In64 (zs : List Int) : Prop := ∀ z ∈ zs, -9223372036854775808 ≤ z ∧ z ≤ 9223372036854775807
structure MC : Prop where
  lens : ∀ (v : Value) (zs : List Int) (most : Int) (w : World), ReadsZ w v zs → zs.length ≤ 1000 → In64 zs → -9223372036854775808 ≤ most → most ≤ 9223372036854775807 →
    Calls Try.prog 12 #[v, .int .i64 most] w fun e w' => ∃ sv, e = .returned sv ∧ Reads .i64 w' sv (pmLens (zs.map clampN) (clampM most)) ∧ Fr w w' (fun _ => False)
  cost : ∀ (v u : Value) (zs : List Int) (ls : List Nat) (w : World), ReadsZ w v zs → Reads .i64 w u ls → zs.length ≤ 1000 → In64 zs → (∀ l ∈ ls, l ≤ 63) →
    Calls Try.prog 16 #[v, u] w fun e w' => e = .returned (.int .i64 (costZ zs ls : Nat)) ∧ Fr w w' (fun _ => False)
  kraft : ∀ (v : Value) (zs : List Int) (w : World), ReadsZ w v zs → zs.length ≤ 1000 → In64 zs →
    Calls Try.prog 14 #[v] w fun e w' => e = .returned (.int .i64 (kraftZ zs : Nat)) ∧ Fr w w' (fun _ => False)

/-- Ints that are written out. -/
theorem zlit (w : World) (zs : List Int) (C : Array Value) (n : Nat) (hC : C = (zrow zs).toArray) (hn : n = zs.length) (h : zs.length ≤ 1000) : ReadsZ (w.alloc (.cells C 3)) (.slice (some ⟨w.heap.size, 0, none⟩) n n) zs := by
  subst hC hn
  have := holds_lit w 3 (zrow zs) (by rw [zrow_length]; exact h)
  rwa [zrow_length] at this
theorem in64_small (zs : List Int) (h : ∀ z ∈ zs, 0 ≤ z ∧ z ≤ 1000000) : In64 zs := fun z hz => by have := h z hz; omega

set_option maxHeartbeats 800000 in
theorem known_any (M : MC) (w : World) : Calls Try.prog 9 #[] w fun e w' => e = .returned (.bool true) ∧ Fr w w' (fun _ => False) := by
  go_enter Try.func9, Try.ntmps9
  go_wp2_with fail
  refine (M.lens _ [1, 1, 2, 0] 15 _ (zlit w _ _ _ rfl rfl (by decide)) (by decide) (in64_small _ (by decide)) (by decide) (by decide)).mono ?_
  rw [show ([1, 1, 2, 0] : List Int).map clampN = [1, 1, 2, 0] by decide, show clampM 15 = 15 by decide, pm_known]
  rintro e w1 ⟨sv1, rfl, hr1, hf1⟩
  replace hf1 := ((Fr.refl w (fun _ => False)).alloc _).none hf1
  obtain ⟨a1, l1, c1, rfl⟩ := hr1.form
  go_wp2_with fail
  refine (ints_any _ _ _ [2, 2, 1, 0] _ (hr1.keep ((Fr.refl w1 _).alloc _)).z (zlit w1 _ _ _ rfl rfl (by decide)) (by decide)).mono ?_
  rw [show decide (([2, 2, 1, 0] : List Nat).map (fun (b : Nat) => (b : Int)) = [2, 2, 1, 0]) = true by decide]
  rintro e w2 ⟨rfl, hf2⟩
  replace hf2 := ((Fr.refl w1 (fun _ => False)).alloc _).none hf2
  have hr2 := hr1.keep hf2
  replace hf2 := hf1.none hf2
  clear hr1 hf1
  go_wp2_with fail
  refine (M.cost _ _ [1, 1, 2] [2, 2, 1, 0] _ (zlit w2 _ _ _ rfl rfl (by decide)) (hr2.keep ((Fr.refl w2 _).alloc _)) (by decide) (in64_small _ (by decide)) (by decide)).mono ?_
  rw [show costZ [1, 1, 2] [2, 2, 1, 0] = 6 by decide]
  rintro e w3 ⟨rfl, hf3⟩
  replace hf3 := ((Fr.refl w2 (fun _ => False)).alloc _).none hf3
  have hr3 := hr2.keep hf3
  replace hf3 := hf2.none hf3
  clear hr2 hf2
  go_wp2_with fail
  refine (M.kraft _ _ _ hr3.z (by decide) (in64_small _ (by decide))).mono ?_
  rw [kraftZ_nat, kraft_known]
  rintro e w4 ⟨rfl, hf4⟩
  replace hf4 := hf3.none hf4
  clear hr3 hf3
  go_wp2_with fail
  refine (M.lens _ [0, 7] 3 _ (zlit w4 _ _ _ rfl rfl (by decide)) (by decide) (in64_small _ (by decide)) (by decide) (by decide)).mono ?_
  rw [show ([0, 7] : List Int).map clampN = [0, 7] by decide, show clampM 3 = 3 by decide, pm_known1]
  rintro e w5 ⟨sv5, rfl, hr5, hf5⟩
  replace hf5 := hf4.none (((Fr.refl w4 (fun _ => False)).alloc _).none hf5)
  obtain ⟨a5, l5, c5, rfl⟩ := hr5.form
  clear hf4
  go_wp2_with fail
  refine (ints_any _ _ _ [0, 1] _ (hr5.keep ((Fr.refl w5 _).alloc _)).z (zlit w5 _ _ _ rfl rfl (by decide)) (by decide)).mono ?_
  rw [show decide (([0, 1] : List Nat).map (fun (b : Nat) => (b : Int)) = [0, 1]) = true by decide]
  rintro e w6 ⟨rfl, hf6⟩
  replace hf6 := hf5.none (((Fr.refl w5 (fun _ => False)).alloc _).none hf6)
  clear hr5 hf5
  go_wp2_with fail
  refine (M.lens _ [1, 1, 1] 1 _ (zlit w6 _ _ _ rfl rfl (by decide)) (by decide) (in64_small _ (by decide)) (by decide) (by decide)).mono ?_
  rw [show ([1, 1, 1] : List Int).map clampN = [1, 1, 1] by decide, show clampM 1 = 1 by decide, pm_known2]
  rintro e w7 ⟨sv7, rfl, hr7, hf7⟩
  replace hf7 := hf6.none (((Fr.refl w6 (fun _ => False)).alloc _).none hf7)
  obtain ⟨a7, c7, rfl, -, -⟩ := hr7
  rw [length_row]
  clear hf6
  go_wp2
  go_ret
  exact ⟨rfl, hf7⟩

end Go.Proofs.Ytjjanlpkhoeejaa
