/-
  The contract of history's turn.
-/
import Derived.Test.YthdlhdeaeaahoaaHMap
import Derived.Test.YthdlhdeaeaahoaaJ2
namespace Go.Proofs.Ythdlhdeaeaahoaa
open Go.RowKit Go.Maps

set_option maxRecDepth 4000 in
set_option maxHeartbeats 800000 in
theorem turn_any (b n : Nat) (l : List Eg) (x : Ev) (w : World) (h : OwnM w b n l) (hr : eRising l = true) (hn : n ≤ 1000000) (hx : EvFit x) : Calls Try.prog 46 #[.map (some b), evV x] w fun r w' =>
    r = .returned (.bool (turnF l x.2.1 x.2.2).isSome) ∧ Fr w w' (fun k => k = b) ∧ (∀ l', turnF l x.2.1 x.2.2 = some l' → OwnM w' b (n + 1) l') := by
  obtain ⟨t, ⟨e1, e2⟩, ad⟩ := x
  obtain ⟨D, ho, hD⟩ := h
  have hfit : EgFit (e1, e2) := hx.2
  have Hfit : Hid _ := hfit
  have Hm : Hid (∀ z, Fr w z (fun _ => False) → z.ownsMap Try.prog 48 unitElem b n D) := fun z hz => by
    obtain ⟨es, clock, hb, r⟩ := ho
    exact ⟨es, clock, hz.kept hb (fun h => h), r⟩
  have HD : Hid _ := hD
  have hmx : n < maxLen := by unfold maxLen; omega
  have Hb : Hid (b < w.heap.size) := ho.lt
  obtain ⟨B, hB⟩ : ∃ B, B = decide ((e1, e2) ∈ l) := ⟨_, rfl⟩
  have HhB : Hid (has D (eKey (e1, e2)) = B) := by show _ = _; rw [hB]; exact hD _ hfit
  have HB : Hid _ := hB
  have Hr : Hid _ := hr
  clear hfit ho hD hB hr hx
  unfold evV eventV
  dsimp only
  rcases ad with _ | _ <;> rcases B with _ | _
  · -- not there, goes
    have Hno : Hid (turnF l (e1, e2) false = none) := by show _ = _; unfold turnF; exact if_pos (.inr HB.out)
    rw [Hno.out]
    go_enter Try.func46, Try.ntmps46
    go_upto_region 1 with fail
    obtain ⟨p, hp⟩ : ∃ p, p = w.heap.size := ⟨_, rfl⟩
    obtain ⟨w1, hw1⟩ : ∃ x, x = w.alloc (.cells #[.int .i64 t, .int .u32 (e1 : Int), .int .u32 (e2 : Int), .bool false] 53) := ⟨_, rfl⟩
    rw [← hw1, ← hp]
    have Hpb : Hid (∀ z, Fr w1 z (fun _ => False) → z.heap[p]? = some (.cells #[.int .i64 t, .int .u32 (e1 : Int), .int .u32 (e2 : Int), .bool false] 53 (0, 0))) := fun z hz => hz.kept (by rw [hw1, hp]; exact heap_alloc_new _ _) (fun h => h)
    have Hw1 : Hid (Fr w w1 (fun _ => False)) := by show Fr _ _ _; rw [hw1]; exact (Fr.refl _ _).alloc _
    clear hp hw1
    obtain ⟨k0, k1, k2, k3⟩ := four_cells (Hpb.out w1 (Fr.refl _ _))
    have k4 : ∀ o, (w1.alloc o).cell? ⟨p, 0, none⟩ = some (.int .i64 t) := fun o => (four_cells (Hpb.out _ ((Fr.refl _ _).alloc o))).1
    have k5 : ∀ o, (w1.alloc o).cell? ⟨p, 1, none⟩ = some (.int .u32 (e1 : Int)) := fun o => (four_cells (Hpb.out _ ((Fr.refl _ _).alloc o))).2.1
    have k6 : ∀ o, (w1.alloc o).cell? ⟨p, 2, none⟩ = some (.int .u32 (e2 : Int)) := fun o => (four_cells (Hpb.out _ ((Fr.refl _ _).alloc o))).2.2.1
    have k7 : ∀ o, (w1.alloc o).cell? ⟨p, 3, none⟩ = some (.bool false) := fun o => (four_cells (Hpb.out _ ((Fr.refl _ _).alloc o))).2.2.2
    have Hfo : Hid (∀ z, Fr w1 z (fun _ => False) → Fr w z (fun k => k = b)) := fun z hz => (Hw1.out.none hz).mono (fun _ _ h => h.elim)
    go_wp2_with (first | (at_lookup; refine wpList_lookup_own_unit _ rfl _ _ 71 rfl 48 84 mLaw Try.underlying71 (mZero _) b n D rfl (Hm.out w1 Hw1.out) (edgeV (e1, e2)) _ rfl (eKey_is _ Hfit.out) ?_; rw [HhB.out]) | fail)
    go_ret
    first | exact ⟨rfl, Hfo.out _ ((Fr.refl _ _).alloc _)⟩ | exact ⟨rfl, Hfo.out _ ((Fr.refl _ _).alloc _), fun l' h => by cases h⟩
  · -- there, goes
    obtain ⟨l', hl'⟩ := turn_some (l := l) (e := (e1, e2)) (add := false) Hr.out (by rw [← HB.out]; rfl)
    have Hl : Hid (turnF l (e1, e2) false = some l') := hl'
    rw [Hl.out]
    clear hl'
    go_enter Try.func46, Try.ntmps46
    go_upto_region 1 with fail
    obtain ⟨p, hp⟩ : ∃ p, p = w.heap.size := ⟨_, rfl⟩
    obtain ⟨w1, hw1⟩ : ∃ x, x = w.alloc (.cells #[.int .i64 t, .int .u32 (e1 : Int), .int .u32 (e2 : Int), .bool false] 53) := ⟨_, rfl⟩
    rw [← hw1, ← hp]
    have Hpb : Hid (∀ z, Fr w1 z (fun _ => False) → z.heap[p]? = some (.cells #[.int .i64 t, .int .u32 (e1 : Int), .int .u32 (e2 : Int), .bool false] 53 (0, 0))) := fun z hz => hz.kept (by rw [hw1, hp]; exact heap_alloc_new _ _) (fun h => h)
    have Hw1 : Hid (Fr w w1 (fun _ => False)) := by show Fr _ _ _; rw [hw1]; exact (Fr.refl _ _).alloc _
    clear hp hw1
    obtain ⟨k0, k1, k2, k3⟩ := four_cells (Hpb.out w1 (Fr.refl _ _))
    have k4 : ∀ o, (w1.alloc o).cell? ⟨p, 0, none⟩ = some (.int .i64 t) := fun o => (four_cells (Hpb.out _ ((Fr.refl _ _).alloc o))).1
    have k5 : ∀ o, (w1.alloc o).cell? ⟨p, 1, none⟩ = some (.int .u32 (e1 : Int)) := fun o => (four_cells (Hpb.out _ ((Fr.refl _ _).alloc o))).2.1
    have k6 : ∀ o, (w1.alloc o).cell? ⟨p, 2, none⟩ = some (.int .u32 (e2 : Int)) := fun o => (four_cells (Hpb.out _ ((Fr.refl _ _).alloc o))).2.2.1
    have k7 : ∀ o, (w1.alloc o).cell? ⟨p, 3, none⟩ = some (.bool false) := fun o => (four_cells (Hpb.out _ ((Fr.refl _ _).alloc o))).2.2.2
    go_wp2_with (first | (at_lookup; refine wpList_lookup_own_unit _ rfl _ _ 71 rfl 48 84 mLaw Try.underlying71 (mZero _) b n D rfl (Hm.out w1 Hw1.out) (edgeV (e1, e2)) _ rfl (eKey_is _ Hfit.out) ?_; rw [HhB.out]) | (at_delete; refine wpList_delete_own _ rfl _ _ 71 48 rfl 84 mLaw Try.underlying71 unitElem b n D rfl (Hm.out _ (Hw1.out.alloc _)) (edgeV (e1, e2)) _ rfl (eKey_is _ Hfit.out) ?_; intro w3 hown3 hturn3) | fail)
    have Hown : Hid (OwnM w3 b (n + 1) l') := ⟨_, hown3.mono (by omega), has_del_all Hfit.out HD.out (fun x => by rw [mem_turn Hl.out]; simp)⟩
    have Hfo : Hid (Fr w w3 (fun k => k = b)) := ((Hw1.out.alloc _).mono (fun _ _ h => h.elim)).trans (fr_turned hturn3) (fun _ _ h => h)
    clear hown3 hturn3
    go_wp2
    go_ret
    first | exact ⟨rfl, Hfo.out, Hown.out⟩ | exact ⟨rfl, Hfo.out, fun x hx => by cases hx; exact Hown.out⟩
  · -- not there, comes
    obtain ⟨l', hl'⟩ := turn_some (l := l) (e := (e1, e2)) (add := true) Hr.out (by rw [← HB.out]; rfl)
    have Hl : Hid (turnF l (e1, e2) true = some l') := hl'
    have Hmap : Hid (IsMap D) := (Hm.out w (Fr.refl _ _)).isMap
    rw [Hl.out]
    clear hl'
    go_enter Try.func46, Try.ntmps46
    go_upto_region 1 with fail
    obtain ⟨p, hp⟩ : ∃ p, p = w.heap.size := ⟨_, rfl⟩
    obtain ⟨w1, hw1⟩ : ∃ x, x = w.alloc (.cells #[.int .i64 t, .int .u32 (e1 : Int), .int .u32 (e2 : Int), .bool true] 53) := ⟨_, rfl⟩
    rw [← hw1, ← hp]
    have Hpb : Hid (∀ z, Fr w1 z (fun _ => False) → z.heap[p]? = some (.cells #[.int .i64 t, .int .u32 (e1 : Int), .int .u32 (e2 : Int), .bool true] 53 (0, 0))) := fun z hz => hz.kept (by rw [hw1, hp]; exact heap_alloc_new _ _) (fun h => h)
    have Hw1 : Hid (Fr w w1 (fun _ => False)) := by show Fr _ _ _; rw [hw1]; exact (Fr.refl _ _).alloc _
    clear hp hw1
    obtain ⟨k0, k1, k2, k3⟩ := four_cells (Hpb.out w1 (Fr.refl _ _))
    have k4 : ∀ o, (w1.alloc o).cell? ⟨p, 0, none⟩ = some (.int .i64 t) := fun o => (four_cells (Hpb.out _ ((Fr.refl _ _).alloc o))).1
    have k5 : ∀ o, (w1.alloc o).cell? ⟨p, 1, none⟩ = some (.int .u32 (e1 : Int)) := fun o => (four_cells (Hpb.out _ ((Fr.refl _ _).alloc o))).2.1
    have k6 : ∀ o, (w1.alloc o).cell? ⟨p, 2, none⟩ = some (.int .u32 (e2 : Int)) := fun o => (four_cells (Hpb.out _ ((Fr.refl _ _).alloc o))).2.2.1
    have k7 : ∀ o, (w1.alloc o).cell? ⟨p, 3, none⟩ = some (.bool true) := fun o => (four_cells (Hpb.out _ ((Fr.refl _ _).alloc o))).2.2.2
    go_wp2_with (first | (at_lookup; refine wpList_lookup_own_unit _ rfl _ _ 71 rfl 48 84 mLaw Try.underlying71 (mZero _) b n D rfl (Hm.out w1 Hw1.out) (edgeV (e1, e2)) _ rfl (eKey_is _ Hfit.out) ?_; rw [HhB.out]) | (at_mapUpdate; refine wpList_mapUpdate_in _ rfl _ _ _ 71 rfl 48 84 mLaw Try.underlying71 unitElem b n D rfl (Hm.out _ (Hw1.out.alloc _)) hmx (edgeV (e1, e2)) (.agg #[]) _ rfl rfl (eKey_is _ Hfit.out) (.agg []) [] unitElem_mk ?_; intro w3 hown3 hturn3) | fail)
    have Hown : Hid (OwnM w3 b (n + 1) l') := ⟨_, hown3, has_put_all Hfit.out Hmap.out HD.out (fun x => by rw [mem_turn Hl.out]; simp)⟩
    have Hfo : Hid (Fr w w3 (fun k => k = b)) := ((Hw1.out.alloc _).mono (fun _ _ h => h.elim)).trans (fr_turned hturn3) (fun _ _ h => h)
    clear hown3 hturn3
    go_wp2
    go_ret
    first | exact ⟨rfl, Hfo.out, Hown.out⟩ | exact ⟨rfl, Hfo.out, fun x hx => by cases hx; exact Hown.out⟩
  · -- there, comes
    have Hno : Hid (turnF l (e1, e2) true = none) := by show _ = _; unfold turnF; exact if_pos (.inr HB.out)
    rw [Hno.out]
    go_enter Try.func46, Try.ntmps46
    go_upto_region 1 with fail
    obtain ⟨p, hp⟩ : ∃ p, p = w.heap.size := ⟨_, rfl⟩
    obtain ⟨w1, hw1⟩ : ∃ x, x = w.alloc (.cells #[.int .i64 t, .int .u32 (e1 : Int), .int .u32 (e2 : Int), .bool true] 53) := ⟨_, rfl⟩
    rw [← hw1, ← hp]
    have Hpb : Hid (∀ z, Fr w1 z (fun _ => False) → z.heap[p]? = some (.cells #[.int .i64 t, .int .u32 (e1 : Int), .int .u32 (e2 : Int), .bool true] 53 (0, 0))) := fun z hz => hz.kept (by rw [hw1, hp]; exact heap_alloc_new _ _) (fun h => h)
    have Hw1 : Hid (Fr w w1 (fun _ => False)) := by show Fr _ _ _; rw [hw1]; exact (Fr.refl _ _).alloc _
    clear hp hw1
    obtain ⟨k0, k1, k2, k3⟩ := four_cells (Hpb.out w1 (Fr.refl _ _))
    have k4 : ∀ o, (w1.alloc o).cell? ⟨p, 0, none⟩ = some (.int .i64 t) := fun o => (four_cells (Hpb.out _ ((Fr.refl _ _).alloc o))).1
    have k5 : ∀ o, (w1.alloc o).cell? ⟨p, 1, none⟩ = some (.int .u32 (e1 : Int)) := fun o => (four_cells (Hpb.out _ ((Fr.refl _ _).alloc o))).2.1
    have k6 : ∀ o, (w1.alloc o).cell? ⟨p, 2, none⟩ = some (.int .u32 (e2 : Int)) := fun o => (four_cells (Hpb.out _ ((Fr.refl _ _).alloc o))).2.2.1
    have k7 : ∀ o, (w1.alloc o).cell? ⟨p, 3, none⟩ = some (.bool true) := fun o => (four_cells (Hpb.out _ ((Fr.refl _ _).alloc o))).2.2.2
    have Hfo : Hid (∀ z, Fr w1 z (fun _ => False) → Fr w z (fun k => k = b)) := fun z hz => (Hw1.out.none hz).mono (fun _ _ h => h.elim)
    go_wp2_with (first | (at_lookup; refine wpList_lookup_own_unit _ rfl _ _ 71 rfl 48 84 mLaw Try.underlying71 (mZero _) b n D rfl (Hm.out w1 Hw1.out) (edgeV (e1, e2)) _ rfl (eKey_is _ Hfit.out) ?_; rw [HhB.out]) | fail)
    go_ret
    first | exact ⟨rfl, Hfo.out _ ((Fr.refl _ _).alloc _)⟩ | exact ⟨rfl, Hfo.out _ ((Fr.refl _ _).alloc _), fun l' h => by cases h⟩

end Go.Proofs.Ythdlhdeaeaahoaa
