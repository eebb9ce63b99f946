/-
  The contract of history's Copy.
-/
import Derived.Test.YtojeaggnknnnoaaXHist
namespace Go.Proofs.Ytojeaggnknnnoaa
open Go.RowKit

set_option maxRecDepth 4000 in
set_option maxHeartbeats 400000 in
theorem copy_any (n : Nat) (v : Value) (evs : List Ev) (w : World) (h : RdV w v evs) (hl : evs.length ≤ 1000000) : Calls Try.prog 15 #[histV n v] w fun r w' =>
    (∃ v', r = .returned (histV n v') ∧ RdV w' v' evs ∧ (0 < evs.length → OwnV w' v' evs ∧ ∀ k, v'.ownBlock = some k → w.heap.size ≤ k)) ∧ Fr w w' (fun _ => False) := by
  obtain ⟨a0, c0, rfl, hc0⟩ := h.form
  obtain ⟨m, hm⟩ : ∃ m, m = evs.length := ⟨_, rfl⟩
  rw [← hm] at h hl hc0 ⊢
  have Hr : Hid (RdV w (.slice a0 m c0) evs) := h
  have Hm : Hid _ := hm
  have Hl : Hid _ := hl
  clear h hm hl
  unfold histV
  go_enter Try.func15, Try.ntmps15
  go_upto_region 1 with fail
  obtain ⟨p, hp⟩ : ∃ p, p = w.heap.size := ⟨_, rfl⟩
  obtain ⟨q, hq⟩ : ∃ q, q = p + 1 := ⟨_, rfl⟩
  obtain ⟨wa, hwa⟩ : ∃ wa, wa = (w.alloc (.cells #[.int .u64 (n : Int), .slice a0 m c0] 25)).alloc (.cells #[.int .u64 0, .slice none 0 0] 25) := ⟨_, rfl⟩
  rw [← hwa, ← hp, ← hq]
  have Hpb : Hid (wa.heap[p]? = some (.cells #[.int .u64 (n : Int), .slice a0 m c0] 25 (0, 0))) := by show _ = _; rw [hwa, hp]; exact blk_alloc _ (heap_alloc_new _ _)
  have Hqb : Hid (wa.heap[q]? = some (.cells #[.int .u64 0, .slice none 0 0] 25 (0, 0))) := by
    show _ = _
    have h0 := heap_alloc_new (w.alloc (.cells #[.int .u64 (n : Int), .slice a0 m c0] 25)) (.cells #[.int .u64 0, .slice none 0 0] 25)
    rw [hwa, hq, hp]
    simpa using h0
  have Hwa : Hid (Fr w wa (fun _ => False)) := by show Fr _ _ _; rw [hwa]; exact ((Fr.refl _ _).alloc _).alloc _
  have Hpq : Hid (p < q) := by show _ < _; omega
  have Hwq : Hid (w.heap.size ≤ q) := by show _ ≤ _; omega
  clear hp hq hwa
  go_wp2_with fail
  refine wp_region_tree (fun k => k = q) (.take 0 (.take 1 (.take 2 (.take 3 (.one 4 (.take 5 (.one 6 .nil))))))) (by kernel_rfl) (by kernel_rfl) (by decide) (by kernel_rfl) ?_
  have Hpb : Hid (∀ z, Fr wa.drew z (fun k => k = q) → z.heap[p]? = some (.cells #[.int .u64 (n : Int), .slice a0 m c0] 25 (0, 0))) := fun z hz => hz.kept Hpb.out (by have := Hpq.out; omega)
  have Hqb : Hid (wa.drew.heap[q]? = some (.cells #[.int .u64 0, .slice none 0 0] 25 (0, 0))) := Hqb.out
  have Hwa : Hid (Fr w wa.drew (fun _ => False)) := Hwa.out.drew
  generalize wa.drew = wd at *
  have ka : ∀ z, Fr wd z (fun k => k = q) → z.cell? ⟨p, 0, none⟩ = some (.int .u64 (n : Int)) := fun z hz => two_cell0 (Hpb.out z hz)
  have kb : ∀ z, Fr wd z (fun k => k = q) → z.cell? ⟨p, 1, none⟩ = some (.slice a0 m c0) := fun z hz => two_cell1 (Hpb.out z hz)
  repeat (refine wpT_take (v := ?_) rfl rfl (fun x hx => ?_) ?_; rotate_left; (focus (go_simp; with_reducible rfl)); simp only [Act.put, List.setIfInBounds_toArray, List.set_cons_zero, List.set_cons_succ])
  clear ka kb
  refine wpT_one rfl rfl (fun K hK => ?_)
  obtain ⟨v9, w9, hrun9, ho9, hf9, hn9⟩ := app_events_nil wd (.slice a0 m c0) evs wd.heap.size (Nat.le_refl _) (Hr.out.keep Hwa.out) (by rw [← Hm.out]; have := Hl.out; omega)
  obtain ⟨a9, c9, rfl, hc9⟩ : ∃ a c, v9 = .slice a m c ∧ m ≤ c := by obtain ⟨a, c, e, e2⟩ := ho9.rd.form; rw [← Hm.out] at e e2; exact ⟨a, c, e, e2⟩
  refine op_append_run (.const (.slice none 0 0)) (.tmp 6) 23 rfl rfl rfl hrun9 ?_
  refine hK _ _ (hf9.mono (fun i hi h => by omega)) ?_
  have Hf9 : Hid (Fr wd w9 (fun _ => False)) := hf9.old (Nat.le_refl _)
  have Ho9 : Hid (OwnV w9 (.slice a9 m c9) evs) := ho9
  have Hn9 : Hid (∀ k, (Value.slice a9 m c9).ownBlock = some k → wd.heap.size ≤ k) := hn9
  have Hq9 : Hid (w9.heap[q]? = some (.cells #[.int .u64 0, .slice none 0 0] 25 (0, 0))) := Hf9.out.kept Hqb.out (fun h => h)
  have Hqd : Hid (q < wd.heap.size) := lt_of_block Hqb.out
  clear hK K hf9 ho9 hn9 hrun9 Hqb Hpb
  try simp only [Act.put, List.setIfInBounds_toArray, List.set_cons_zero, List.set_cons_succ]
  repeat (refine wpT_take (v := ?_) rfl rfl (fun x hx => ?_) ?_; rotate_left; (focus (go_simp; with_reducible rfl)); simp only [Act.put, List.setIfInBounds_toArray, List.set_cons_zero, List.set_cons_succ])
  refine wpT_one rfl rfl (fun K hK => ?_)
  have q0 := two_cell0 Hq9.out
  have q1 := two_cell1 Hq9.out
  have fz := two_free Hq9.out
  have z0 : ∀ u, (w9.setCell ⟨q, 0, none⟩ u).cell? ⟨q, 1, none⟩ = some (.slice none 0 0) := fun u => two_cell1 (two_set0 Hq9.out (u := u))
  have z1 : ∀ u j, (w9.setCell ⟨q, 0, none⟩ u).frozen? ⟨q, j, none⟩ = false := fun u j => two_free (two_set0 Hq9.out (u := u)) j
  go_simp
  refine hK _ _ ?_ ?_
  · exact (fr_cell _ _ _ _).trans (fr_cell _ _ _ _) (fun _ _ h => h)
  clear hK K q0 q1 fz z0 z1
  have Hrow : Hid (((w9.setCell ⟨q, 0, none⟩ (.int .u64 (n : Int))).setCell ⟨q, 1, none⟩ (.slice a9 m c9)).heap[q]? = some (.cells #[.int .u64 (n : Int), .slice a9 m c9] 25 (0, 0))) := two_set1 (two_set0 Hq9.out)
  have Hf : Hid (Fr w9 ((w9.setCell ⟨q, 0, none⟩ (.int .u64 (n : Int))).setCell ⟨q, 1, none⟩ (.slice a9 m c9)) (fun k => k = q)) := (fr_cell _ _ _ _).trans (fr_cell _ _ _ _) (fun _ _ h => h)
  generalize (w9.setCell ⟨q, 0, none⟩ (.int .u64 (n : Int))).setCell ⟨q, 1, none⟩ (.slice a9 m c9) = w10 at *
  have Hrd : Hid (RdV w10 (.slice a9 m c9) evs) := Ho9.out.rd.frame Hf.out (fun _ k hk => by have h1 := Hn9.out k hk; have h2 := Hqd.out; omega)
  have Hown : Hid (OwnV w10 (.slice a9 m c9) evs) := Ho9.out.frame Hf.out (fun k hk => by have h1 := Hn9.out k hk; have h2 := Hqd.out; omega)
  have Hnew : Hid (∀ k, (Value.slice a9 m c9).ownBlock = some k → w.heap.size ≤ k) := fun k hk => by have h1 := Hn9.out k hk; have h2 := Hqd.out; have h3 := Hwq.out; omega
  have Hfo : Hid (Fr w w10 (fun _ => False)) := (Hwa.out.none Hf9.out).trans Hf.out (fun i hi h => by have := Hwq.out; omega)
  unfold wpT
  go_wp2_with fail
  refine bodyPost_ret (results_cell1 rfl rfl (run_loadVar_row _ _ 25 _ _ (0, 0) _ Hrow.out Try.underlying25 rfl histSize)) rfl ?_
  exact ⟨⟨_, rfl, Hrd.out, fun _ => ⟨Hown.out, Hnew.out⟩⟩, Hfo.out⟩

end Go.Proofs.Ytojeaggnknnnoaa
