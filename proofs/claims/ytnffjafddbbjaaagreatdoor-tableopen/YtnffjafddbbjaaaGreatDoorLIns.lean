/-
  The contract of the reference's insert.
-/
import Derived.Test.YtnffjafddbbjaaaGreatDoorJ3
import Derived.Test.YtnffjafddbbjaaaGreatDoorJ2
import Derived.Test.YtnffjafddbbjaaaGreatDoorJ10
namespace Go.Proofs.YtnffjafddbbjaaaGreatDoor
open Go.RowKit

set_option maxRecDepth 4000 in
set_option maxHeartbeats 1600000 in
theorem refInsert_any (v : Value) (evs : List Ev) (x : Ev) (w : World) (h : RdV w v evs) (hl : evs.length ≤ 1000000) : Calls Tryz.prog 75 #[v, evV x] w fun r w' => (∃ v', r = .returned v' ∧ RdV w' v' (insP evs x)) ∧ Fr w w' (fun _ => False) := by
  obtain ⟨a0, c0, rfl, hc0⟩ := h.form
  obtain ⟨n, hn⟩ : ∃ n, n = evs.length := ⟨_, rfl⟩
  obtain ⟨t, ⟨e1, e2⟩, ad⟩ := x
  rw [← hn] at h hl hc0 ⊢
  have Hr : Hid (RdV w (.slice a0 n c0) evs) := h
  have Hn : Hid _ := hn
  have Hl : Hid (evs.length ≤ 1000000) := by show _ ≤ _; omega
  obtain ⟨R, hR⟩ : ∃ R, R = insP evs (t, (e1, e2), ad) := ⟨_, rfl⟩
  rw [← hR]
  have HR : Hid _ := hR
  clear h hn hR
  unfold evV eventV
  dsimp only
  go_enter Tryz.func75, Tryz.ntmps75
  go_wp2_with fail
  obtain ⟨p, hp⟩ : ∃ p, p = w.heap.size := ⟨_, rfl⟩
  obtain ⟨wa, hwa⟩ : ∃ wa, wa = w.alloc (.cells #[.int .i64 t, .int .u32 (e1 : Int), .int .u32 (e2 : Int), .bool ad] 60) := ⟨_, rfl⟩
  rw [← hwa, ← hp]
  have Hpb : Hid (∀ z, Fr wa z (fun _ => False) → z.heap[p]? = some (.cells #[.int .i64 t, .int .u32 (e1 : Int), .int .u32 (e2 : Int), .bool ad] 60 (0, 0))) := fun z hz => hz.kept (by rw [hwa, hp]; exact heap_alloc_new _ _) (fun h => h)
  have Hwa : Hid (Fr w wa (fun _ => False)) := by show Fr _ _ _; rw [hwa]; exact (Fr.refl _ _).alloc _
  have Hr : Hid (∀ z, Fr wa z (fun _ => False) → RdV z (.slice a0 n c0) evs) := fun z hz => Hr.out.keep (Hwa.out.none hz)
  clear hp hwa
  go_loopg [5] n (fun g I wr => ∃ k : Nat, g = k ∧ k ≤ n ∧ I = .int .i64 (k : Int) ∧ insK evs (t, (e1, e2), ad) k = insK evs (t, (e1, e2), ad) evs.length ∧ Fr wa wr (fun _ => False))
  case atStart => exact ⟨n, rfl, Nat.le_refl _, rfl, by rw [← Hn.out], Fr.refl _ _⟩
  case round =>
    obtain ⟨k, hg, hk, rfl, hle, hf⟩ := hrel
    have Hg : Hid _ := hg
    have Hle : Hid _ := hle
    have Hf : Hid (Fr wa wr (fun _ => False)) := hf
    clear hg hle hf
    obtain ⟨B, hB⟩ : ∃ B, B = befBack evs (t, (e1, e2), ad) k := ⟨_, rfl⟩
    have HB : Hid _ := hB
    clear hB
    go_upto_region 2 with fail
    go_cut [18] from 8 to 20 (fun V wx => V = .bool B ∧ Fr wr wx (fun _ => False))
    case first =>
      by_cases h0 : k = 0
      · subst h0
        obtain rfl : B = false := HB.out
        go_wp2_with fail
        refine wp_region_tree (fun _ => False) (.take 0 (.take 1 (.take 2 (.take 3 (.take 4 (.take 5 (.take 6 (.take 7 (.take 8 (.one 9 (.take 10 .nil))))))))))) (by kernel_rfl) (by kernel_rfl) (by decide) (by kernel_rfl) ?_
        iterate 3 (refine wpT_take (v := ?_) rfl rfl (fun x hx => ?_) ?_; rotate_left; (focus (go_simp; with_reducible rfl)); simp only [Act.put, List.setIfInBounds_toArray, List.set_cons_zero, List.set_cons_succ])
        iterate 6 (refine wpT_pass rfl rfl ?_; simp only [Act.put, List.setIfInBounds_toArray, List.set_cons_zero, List.set_cons_succ])
        refine wpT_skip rfl rfl ?_
        simp only [Act.put, List.setIfInBounds_toArray, List.set_cons_zero, List.set_cons_succ]
        repeat (refine wpT_take (v := ?_) rfl rfl (fun x hx => ?_) ?_; rotate_left; (focus (go_simp; with_reducible rfl)); simp only [Act.put, List.setIfInBounds_toArray, List.set_cons_zero, List.set_cons_succ])
        have G3 : Hid (Fr wr wr.drew (fun _ => False)) := (Fr.refl wr (fun _ => False)).drew
        unfold wpT
        go_wp2_with fail
        go_meet
        case rel => exact ⟨rfl, G3.out⟩
      · obtain ⟨k1, hke⟩ : ∃ j, k = j + 1 := ⟨k - 1, by omega⟩
        obtain ⟨⟨s, ⟨f1, f2⟩, ax⟩, ha⟩ : ∃ a, evs[k1]? = some a := ⟨_, List.getElem?_eq_getElem (by rw [← Hn.out]; omega)⟩
        have HB2 : Hid (eBefore t s (e1, e2) (f1, f2) = B) := by
          show _ = _
          rw [HB.out, hke]
          show _ = (evs[k1]?.map (fun x => eBef (t, (e1, e2), ad) x)).getD false
          rw [ha]
          rfl
        obtain ⟨bk, off, cap, e3, hbk, hca⟩ := (Hr.out wa (Fr.refl _ _)).get k1 _ ha
        simp only [Value.slice.injEq] at e3
        obtain ⟨rfl, -, rfl⟩ := e3
        have HG : Hid (Fr wa wr.drew (fun _ => False)) := Hf.out.drew
        have ka : ∀ z, Fr wr.drew z (fun _ => False) → z.cell? ⟨bk, off + k1 * 4, none⟩ = some (.int .i64 s) := fun z hz => (hca z ((HG.out.none hz).mono (fun _ _ h => h.elim))).1
        have kb : ∀ z, Fr wr.drew z (fun _ => False) → z.cell? ⟨bk, off + k1 * 4 + 1, none⟩ = some (.int .u32 (f1 : Int)) := fun z hz => (hca z ((HG.out.none hz).mono (fun _ _ h => h.elim))).2.1
        have kc : ∀ z, Fr wr.drew z (fun _ => False) → z.cell? ⟨bk, off + k1 * 4 + 2, none⟩ = some (.int .u32 (f2 : Int)) := fun z hz => (hca z ((HG.out.none hz).mono (fun _ _ h => h.elim))).2.2.1
        have kd : ∀ z, Fr wr.drew z (fun _ => False) → z.cell? ⟨bk, off + k1 * 4 + 3, none⟩ = some (.bool ax) := fun z hz => (hca z ((HG.out.none hz).mono (fun _ _ h => h.elim))).2.2.2
        have ke : ∀ z, Fr wr.drew z (fun _ => False) → z.cell? ⟨p, 0, none⟩ = some (.int .i64 t) := fun z hz => (four_cells (Hpb.out z (HG.out.none hz))).1
        have kf : ∀ z, Fr wr.drew z (fun _ => False) → z.cell? ⟨p, 1, none⟩ = some (.int .u32 (e1 : Int)) := fun z hz => (four_cells (Hpb.out z (HG.out.none hz))).2.1
        have kg : ∀ z, Fr wr.drew z (fun _ => False) → z.cell? ⟨p, 2, none⟩ = some (.int .u32 (e2 : Int)) := fun z hz => (four_cells (Hpb.out z (HG.out.none hz))).2.2.1
        have kh : ∀ z, Fr wr.drew z (fun _ => False) → z.cell? ⟨p, 3, none⟩ = some (.bool ad) := fun z hz => (four_cells (Hpb.out z (HG.out.none hz))).2.2.2
        have hpos : decide ((0 : Int) < (k : Int)) = true := decide_eq_true (by omega)
        have hpos' : decide (0 < k) = true := decide_eq_true (by omega)
        have hsub : IntKind.i64.wrap ((k : Int) - 1) = (k1 : Int) := by rw [IntWalk.i64_in _ (by omega)]; omega
        have hk1 : (k1 : Int) < (n : Int) := by omega
        have hk10 : (0 : Int) ≤ (k1 : Int) := by omega
        clear hca hbk ha hke
        go_wp2_with fail
        refine wp_region_tree (fun _ => False) (.take 0 (.take 1 (.take 2 (.take 3 (.take 4 (.take 5 (.take 6 (.take 7 (.take 8 (.one 9 (.take 10 .nil))))))))))) (by kernel_rfl) (by kernel_rfl) (by decide) (by kernel_rfl) ?_
        repeat (refine wpT_take (v := ?_) rfl rfl (fun x hx => ?_) ?_; rotate_left; (focus (go_simp; with_reducible rfl)); simp only [Act.put, List.setIfInBounds_toArray, List.set_cons_zero, List.set_cons_succ])
        refine wpT_one rfl rfl (fun K hK => ?_)
        go_simp
        refine (refBefore8_any t s (e1, e2) (f1, f2) ad ax _).mono ?_
        rw [HB2.out]
        rintro r x3 ⟨rfl, g⟩
        refine hK _ _ g ?_
        clear hK K ka kb kc kd ke kf kg kh
        have G3 : Hid (Fr wr x3 (fun _ => False)) := (Fr.refl wr (fun _ => False)).drew.none g
        clear g
        repeat (refine wpT_take (v := ?_) rfl rfl (fun x hx => ?_) ?_; rotate_left; (focus (go_simp; with_reducible rfl)); simp only [Act.put, List.setIfInBounds_toArray, List.set_cons_zero, List.set_cons_succ])
        unfold wpT
        go_wp2_with fail
        go_meet
        case rel => exact ⟨rfl, G3.out⟩
    case rest =>
      obtain ⟨rfl, hfc⟩ := hcut
      rename_i hKc
      refine hKc _ _ ?_
      clear hKc
      have Hfc : Hid (Fr wa wc (fun _ => False)) := Hf.out.none hfc
      clear hfc
      cases B with
      | true =>
        obtain ⟨k1, hke⟩ : ∃ j, k = j + 1 := by
          cases k with
          | zero => have := HB.out; cases this
          | succ j => exact ⟨j, rfl⟩
        have Hle2 : Hid (insK evs (t, (e1, e2), ad) k1 = insK evs (t, (e1, e2), ad) evs.length) := by
          show _ = _
          rw [← Hle.out, hke, insK, if_pos (by have := HB.out; rw [hke] at this; exact this.symm)]
        have hsub : (k : Int) - 1 = (k1 : Int) := by omega
        go_wp2_with fail
        go_roundg k1
        case rel => exact ⟨k1, rfl, by omega, by go_num, Hle2.out, Hfc.out⟩
        case measure => rw [Hg.out]; omega
      | false =>
        have HK : Hid (insK evs (t, (e1, e2), ad) evs.length = k) := by show _ = _; rw [← Hle.out]; exact insK_end HB.out.symm
        obtain rfl : R = evs.take k ++ (t, (e1, e2), ad) :: evs.drop k := by rw [HR.out]; unfold insP; rw [HK.out]
        have Hfd : Hid (Fr wa wc (fun _ => False)) := Hfc.out
        obtain ⟨W, hW⟩ : ∃ W, W = wc.drew := ⟨_, rfl⟩
        have HfW : Hid (Fr wa W (fun _ => False)) := by rw [hW]; exact Hfd.out.drew
        have ka : ∀ z, Fr W z (fun k => W.heap.size ≤ k) → z.cell? ⟨p, 0, none⟩ = some (.int .i64 t) := fun z hz => (four_cells (Hpb.out z (HfW.out.none (hz.old (Nat.le_refl _))))).1
        have kb : ∀ z, Fr W z (fun k => W.heap.size ≤ k) → z.cell? ⟨p, 1, none⟩ = some (.int .u32 (e1 : Int)) := fun z hz => (four_cells (Hpb.out z (HfW.out.none (hz.old (Nat.le_refl _))))).2.1
        have kc : ∀ z, Fr W z (fun k => W.heap.size ≤ k) → z.cell? ⟨p, 2, none⟩ = some (.int .u32 (e2 : Int)) := fun z hz => (four_cells (Hpb.out z (HfW.out.none (hz.old (Nat.le_refl _))))).2.2.1
        have kd : ∀ z, Fr W z (fun k => W.heap.size ≤ k) → z.cell? ⟨p, 3, none⟩ = some (.bool ad) := fun z hz => (four_cells (Hpb.out z (HfW.out.none (hz.old (Nat.le_refl _))))).2.2.2
        have hkc : (k : Int) ≤ (c0 : Int) := by omega
        have hkn : (k : Int) ≤ (n : Int) := by omega
        have hk0 : (0 : Int) ≤ (k : Int) := by omega
        obtain ⟨A, hA⟩ : ∃ A, (if c0 = k then a0 else Option.map (fun x => x.add (k * 4)) a0) = A := ⟨_, rfl⟩
        have Hpre : Hid (RdV W (.slice a0 k c0) (evs.take k)) := (Hr.out W HfW.out).take Hn.out.symm k hk
        have Hpost : Hid (RdV W (.slice A (n - k) (c0 - k)) (evs.drop k)) := by rw [← hA]; exact (Hr.out W HfW.out).drop Hn.out.symm k hk
        have Hll : Hid ((evs.take k).length + 1 + (evs.drop k).length ≤ 2000000) := by have := Hl.out; show _ ≤ _; rw [List.length_take, List.length_drop]; omega
        go_wp2_with fail
        refine wp_region_tree (fun k => W.heap.size ≤ k) (.take 0 (.take 1 (.take 2 (.take 4 (.take 7 (.take 8 (.take 9 (.two 3 (.one 5 (.one 6 (.one 10 (.take 11 .nil)))) 5 (.one 3 (.one 6 (.one 10 (.take 11 .nil)))))))))))) (by kernel_rfl) (by kernel_rfl) (by decide) (by kernel_rfl) ?_
        rw [← hW]
        clear hW
        repeat (refine wpT_take (v := ?_) rfl rfl (fun x hx => ?_) ?_; rotate_left; (focus (go_simp; with_reducible rfl)); simp only [Act.put, List.setIfInBounds_toArray, List.set_cons_zero, List.set_cons_succ])
        clear ka kb kc kd
        have e0 : Fr W W (fun k => W.heap.size ≤ k) := Fr.refl _ _
        refine wpT_two rfl rfl rfl rfl (fun K hK => ?_) (fun K hK => ?_)
        · obtain ⟨v4, w4, hrun4, ho4, hf4, hn4⟩ := app_events_nil W (.slice a0 k c0) _ W.heap.size (Nat.le_refl _) Hpre.out (by have := Hll.out; omega)
          refine op_append_run (.const (.slice none 0 0)) (.tmp 23) 23 rfl rfl rfl hrun4 ?_
          refine hK _ _ hf4 ?_
          clear hK K
          simp only [Act.put, List.setIfInBounds_toArray, List.set_cons_zero, List.set_cons_succ]
          refine wpT_one rfl rfl (fun K hK => ?_)
          go_simp
          refine hK _ _ (((Fr.refl w4 (fun _ => False)).alloc _).mono (fun _ _ h => h.elim)) ?_
          clear hK K
          have hfl : Fr W (w4.alloc (.cells #[.int .i64 t, .int .u32 (e1 : Int), .int .u32 (e2 : Int), .bool ad] 60)) (fun k => W.heap.size ≤ k) := hf4.alloc _
          have hlit := lit_event w4 (t, (e1, e2), ad)
          have hof := ho4.alloc (.cells #[.int .i64 t, .int .u32 (e1 : Int), .int .u32 (e2 : Int), .bool ad] 60)
          obtain ⟨v5, w5, hrun5, ho5, hf5, hn5⟩ := app_events_new _ v4 _ _ [(t, (e1, e2), ad)] W.heap.size hfl.size hof hn4 hlit (by have := Hll.out; simp only [List.length_singleton]; omega)
          refine wpT_one rfl rfl (fun K hK => ?_)
          refine op_append_run (.tmp 24) (.tmp 26) 23 rfl rfl rfl hrun5 ?_
          refine hK _ _ hf5 ?_
          clear hK K
          simp only [Act.put, List.setIfInBounds_toArray, List.set_cons_zero, List.set_cons_succ]
          have hf6 : Fr W w5 (fun k => W.heap.size ≤ k) := hfl.trans hf5 (fun _ _ h => h)
          obtain ⟨v6, w6, hrun6, ho6, hf7, hn6⟩ := app_events_new w5 v5 (.slice A (n - k) (c0 - k)) _ _ W.heap.size hf6.size ho5 hn5 (Hpost.out.keep (hf6.old (Nat.le_refl _))) (by have := Hll.out; rw [List.length_append, List.length_singleton]; omega)
          refine wpT_one rfl rfl (fun K hK => ?_)
          refine op_append_run (.tmp 27) (.tmp 30) 23 rfl rfl rfl hrun6 ?_
          refine hK _ _ hf7 ?_
          clear hK K
          simp only [Act.put, List.setIfInBounds_toArray, List.set_cons_zero, List.set_cons_succ]
          repeat (refine wpT_take (v := ?_) rfl rfl (fun x hx => ?_) ?_; rotate_left; (focus (go_simp; with_reducible rfl)); simp only [Act.put, List.setIfInBounds_toArray, List.set_cons_zero, List.set_cons_succ])
          have Hfo : Hid (Fr w w6 (fun _ => False)) := (Hwa.out.none HfW.out).none ((hf6.trans hf7 (fun _ _ h => h)).old (Nat.le_refl _))
          have Ho6 : Hid (OwnV w6 v6 (evs.take k ++ (t, (e1, e2), ad) :: evs.drop k)) := by rw [List.append_assoc] at ho6; exact ho6
          clear hf4 hf5 hf6 hf7 hfl ho4 ho5 ho6 hn4 hn5 hn6 hrun4 hrun5 hrun6 hlit
          unfold wpT
          go_wp2
          go_ret
          exact ⟨⟨_, rfl, Ho6.out.rd⟩, Hfo.out⟩
        · go_simp
          refine hK _ _ (((Fr.refl W (fun _ => False)).alloc _).mono (fun _ _ h => h.elim)) ?_
          clear hK K
          have hfl : Fr W (W.alloc (.cells #[.int .i64 t, .int .u32 (e1 : Int), .int .u32 (e2 : Int), .bool ad] 60)) (fun k => W.heap.size ≤ k) := e0.alloc _
          have hlit := lit_event W (t, (e1, e2), ad)
          obtain ⟨v4, w4, hrun4, ho4, hf4a, hn4a⟩ := app_events_nil _ (.slice a0 k c0) _ (W.heap.size + 1) (by simp) (Hpre.out.keep (hfl.old (Nat.le_refl _))) (by have := Hll.out; omega)
          have hf4 := hf4a.mono (T := fun k => W.heap.size ≤ k) (fun i _ hi => by omega)
          have hn4 : ∀ k, v4.ownBlock = some k → W.heap.size ≤ k := fun k hk => by have := hn4a k hk; omega
          refine wpT_one rfl rfl (fun K hK => ?_)
          refine op_append_run (.const (.slice none 0 0)) (.tmp 23) 23 rfl rfl rfl hrun4 ?_
          refine hK _ _ hf4 ?_
          clear hK K
          simp only [Act.put, List.setIfInBounds_toArray, List.set_cons_zero, List.set_cons_succ]
          have hlit2 := hlit.frame hf4a (fun _ k hk => by simp [Value.ownBlock] at hk; subst hk; omega)
          obtain ⟨v5, w5, hrun5, ho5, hf5, hn5⟩ := app_events_new _ v4 _ _ [(t, (e1, e2), ad)] W.heap.size (hfl.trans hf4 (fun _ _ h => h)).size ho4 hn4 hlit2 (by have := Hll.out; simp only [List.length_singleton]; omega)
          refine wpT_one rfl rfl (fun K hK => ?_)
          refine op_append_run (.tmp 24) (.tmp 26) 23 rfl rfl rfl hrun5 ?_
          refine hK _ _ hf5 ?_
          clear hK K
          simp only [Act.put, List.setIfInBounds_toArray, List.set_cons_zero, List.set_cons_succ]
          have hf6 : Fr W w5 (fun k => W.heap.size ≤ k) := (hfl.trans hf4 (fun _ _ h => h)).trans hf5 (fun _ _ h => h)
          obtain ⟨v6, w6, hrun6, ho6, hf7, hn6⟩ := app_events_new w5 v5 (.slice A (n - k) (c0 - k)) _ _ W.heap.size hf6.size ho5 hn5 (Hpost.out.keep (hf6.old (Nat.le_refl _))) (by have := Hll.out; rw [List.length_append, List.length_singleton]; omega)
          refine wpT_one rfl rfl (fun K hK => ?_)
          refine op_append_run (.tmp 27) (.tmp 30) 23 rfl rfl rfl hrun6 ?_
          refine hK _ _ hf7 ?_
          clear hK K
          simp only [Act.put, List.setIfInBounds_toArray, List.set_cons_zero, List.set_cons_succ]
          repeat (refine wpT_take (v := ?_) rfl rfl (fun x hx => ?_) ?_; rotate_left; (focus (go_simp; with_reducible rfl)); simp only [Act.put, List.setIfInBounds_toArray, List.set_cons_zero, List.set_cons_succ])
          have Hfo : Hid (Fr w w6 (fun _ => False)) := (Hwa.out.none HfW.out).none ((hf6.trans hf7 (fun _ _ h => h)).old (Nat.le_refl _))
          have Ho6 : Hid (OwnV w6 v6 (evs.take k ++ (t, (e1, e2), ad) :: evs.drop k)) := by rw [List.append_assoc] at ho6; exact ho6
          clear hf4 hf5 hf6 hf7 hfl ho4 ho5 ho6 hn4 hn5 hn6 hrun4 hrun5 hrun6 hlit
          unfold wpT
          go_wp2
          go_ret
          exact ⟨⟨_, rfl, Ho6.out.rd⟩, Hfo.out⟩

end Go.Proofs.YtnffjafddbbjaaaGreatDoor
