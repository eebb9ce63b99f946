/-
  The contract of the reference's Turn.
-/
import Derived.Test.YtojeaggnknnnoaaXFind
import Derived.Test.YtojeaggnknnnoaaERise
import Derived.Test.YtojeaggnknnnoaaESkip
import Derived.Deep.CutRange
namespace Go.Proofs.Ytojeaggnknnnoaa
open Go.RowKit

/-- Is the edge at this place a lesser one? -/
def lessAt (l : List Eg) (e : Eg) (k : Nat) : Bool := (l[k]?.map (fun x => eLess x e)).getD false
theorem lessAt_end {l : List Eg} {e : Eg} {k : Nat} (hk : k ≤ l.length) (h : ∀ j x, j < k → l[j]? = some x → eLess x e = true) (h2 : lessAt l e k = false) : posF l e = k := by
  refine posF_is hk h (fun x hx => ?_)
  unfold lessAt at h2
  rw [hx] at h2
  exact h2

set_option maxRecDepth 4000 in
set_option maxHeartbeats 1600000 in
theorem refTurn_any (v : Value) (es : List Eg) (x : Ev) (w : World) (h : RdE w v es) (hl : es.length ≤ 1000000) : Calls Try.prog 24 #[v, evV x] w fun r w' => (∃ v', r = .returned (.tuple #[v', .bool (turnF es x.2.1 x.2.2).isSome]) ∧ RdE w' v' ((turnF es x.2.1 x.2.2).getD []) ∧ (∀ k, v'.ownBlock = some k → w.heap.size ≤ k)) ∧ Fr w w' (fun _ => False) := by
  obtain ⟨a0, c0, rfl, hc0⟩ := h.form
  obtain ⟨n, hn⟩ : ∃ n, n = es.length := ⟨_, rfl⟩
  obtain ⟨t, ⟨e1, e2⟩, ad⟩ := x
  rw [← hn] at h hl hc0 ⊢
  have Hr : Hid (RdE w (.slice a0 n c0) es) := h
  have Hn : Hid _ := hn
  have Hl : Hid (es.length ≤ 1000000) := by show _ ≤ _; omega
  clear h hn
  unfold evV eventV
  dsimp only
  obtain ⟨TF, hTF⟩ : ∃ T, T = turnF es (e1, e2) ad := ⟨_, rfl⟩
  rw [← hTF]
  have HTF : Hid _ := hTF
  obtain ⟨F, hF⟩ : ∃ F, F = findF es (e1, e2) := ⟨_, rfl⟩
  obtain ⟨D, hD⟩ : ∃ D, D = decide ((e1, e2) ∈ es) := ⟨_, rfl⟩
  have hd : decide ((0 : Int) ≤ F) = D := by rw [hF, hD]; exact findF_has es (e1, e2)
  obtain ⟨R, hR⟩ : ∃ R, R = eRising es := ⟨_, rfl⟩
  have HF : Hid _ := hF
  have HD : Hid _ := hD
  have HR : Hid _ := hR
  clear hF hD hR hTF
  go_enter Try.func24, Try.ntmps24
  go_wp2_with fail
  obtain ⟨p, hp⟩ : ∃ p, p = w.heap.size := ⟨_, rfl⟩
  obtain ⟨wa, hwa⟩ : ∃ wa, wa = w.alloc (.cells #[.int .i64 t, .int .u32 (e1 : Int), .int .u32 (e2 : Int), .bool ad] 42) := ⟨_, rfl⟩
  rw [← hwa]
  have Hpb : Hid (∀ z, Fr wa z (fun _ => False) → z.heap[p]? = some (.cells #[.int .i64 t, .int .u32 (e1 : Int), .int .u32 (e2 : Int), .bool ad] 42 (0, 0))) := fun z hz => hz.kept (by rw [hwa, hp]; exact heap_alloc_new _ _) (fun h => h)
  have Hwa : Hid (Fr w wa (fun _ => False)) := by show Fr _ _ _; rw [hwa]; exact (Fr.refl _ _).alloc _
  have Hr : Hid (∀ z, Fr wa z (fun _ => False) → RdE z (.slice a0 n c0) es) := fun z hz => Hr.out.keep (Hwa.out.none hz)
  refine (refFind_any _ es (e1, e2) _ (Hr.out wa (Fr.refl _ _)) Hl.out).mono ?_
  rw [← HF.out]
  rintro r x1 ⟨rfl, g⟩
  rw [← hp]
  clear hp hwa
  have G1 : Hid (Fr wa x1 (fun _ => False)) := g
  clear g
  obtain ⟨c0', c1, c2, c3⟩ := four_cells (Hpb.out x1 G1.out)
  go_wp2_with fail
  refine (refRising8_any _ es _ (Hr.out x1 G1.out) Hl.out).mono ?_
  rw [← HR.out]
  rintro r x2 ⟨rfl, g⟩
  have G2 : Hid (Fr wa x2 (fun _ => False)) := G1.out.none g
  have Hw2 : Hid (Fr w x2 (fun _ => False)) := Hwa.out.none G2.out
  clear g c0' c1 c2 c3
  obtain ⟨c0', c1, c2, c3⟩ := four_cells (Hpb.out x2 G2.out)
  cases R with
  | false =>
    have Hres : Hid (turnF es (e1, e2) ad = none) := by show _ = _; unfold turnF; rw [if_pos (.inl HR.out.symm)]
    obtain rfl := HTF.out.trans Hres.out
    go_wp2
    go_ret2
    exact ⟨⟨_, rfl, RdE.nil _, fun k hk => by simp [Value.ownBlock] at hk⟩, Hw2.out⟩
  | true =>
  have Hmem : Hid (D = decide ((e1, e2) ∈ es)) := HD.out
  cases D with
  | false =>
    cases ad with
    | false =>
      have Hres : Hid (turnF es (e1, e2) false = none) := by show _ = _; unfold turnF; rw [if_pos (.inr HD.out)]
      obtain rfl := HTF.out.trans Hres.out
      go_wp2
      go_ret2
      exact ⟨⟨_, rfl, RdE.nil _, fun k hk => by simp [Value.ownBlock] at hk⟩, Hw2.out⟩
    | true =>
      have Hres : Hid (turnF es (e1, e2) true = some (es.take (posF es (e1, e2)) ++ (e1, e2) :: es.drop (posF es (e1, e2)))) := by
        show _ = _
        unfold turnF
        rw [← HR.out, ← HD.out, if_neg (by simp), if_pos rfl]
      go_wp2_with fail
      clear c0' c1 c2 c3 hd
      go_loopg [6] n (fun g I wr => ∃ k : Nat, g = n - k ∧ k ≤ n ∧ I = .int .i64 (k : Int) ∧ (∀ j x, j < k → es[j]? = some x → eLess x (e1, e2) = true) ∧ Fr wa wr (fun _ => False))
      case atStart => exact ⟨0, by omega, by omega, rfl, fun j x hj => by omega, G2.out⟩
      case round =>
        obtain ⟨k, hg, hk, rfl, hle, hf⟩ := hrel
        have Hg : Hid _ := hg
        have Hle : Hid _ := hle
        have Hf : Hid (Fr wa wr (fun _ => False)) := hf
        clear hg hle hf
        obtain ⟨B, hB⟩ : ∃ B, B = lessAt es (e1, e2) k := ⟨_, rfl⟩
        have HB : Hid _ := hB
        clear hB
        go_upto_region 7 with fail
        go_cut [45] from 33 to 47 (fun V wx => V = .bool B ∧ Fr wr wx (fun _ => False))
        case first =>
          by_cases hlt : k < n
          · have hin : (k : Int) < (n : Int) := by omega
            have hin' : decide (k < n) = true := decide_eq_true hlt
            obtain ⟨⟨a, b⟩, ha⟩ : ∃ a, es[k]? = some a := ⟨_, List.getElem?_eq_getElem (by rw [← Hn.out]; omega)⟩
            have HB2 : Hid (eLess (a, b) (e1, e2) = B) := by
              show _ = _
              rw [HB.out]
              unfold lessAt
              rw [ha]
              rfl
            obtain ⟨bk, off, cap, e3, hbk, hca⟩ := (Hr.out wa (Fr.refl _ _)).get k _ ha
            simp only [Value.slice.injEq] at e3
            obtain ⟨rfl, -, rfl⟩ := e3
            have ka : ∀ z, Fr wr.drew z (fun _ => False) → z.cell? ⟨bk, off + k * 2, none⟩ = some (.int .u32 (a : Int)) := fun z hz => (hca z (Hf.out.drew.none hz)).1
            have kb : ∀ z, Fr wr.drew z (fun _ => False) → z.cell? ⟨bk, off + k * 2 + 1, none⟩ = some (.int .u32 (b : Int)) := fun z hz => (hca z (Hf.out.drew.none hz)).2
            have kc : ∀ z, Fr wr.drew z (fun _ => False) → z.cell? ⟨p, 1, none⟩ = some (.int .u32 (e1 : Int)) := fun z hz => (four_cells (Hpb.out z (Hf.out.drew.none hz))).2.1
            have kd : ∀ z, Fr wr.drew z (fun _ => False) → z.cell? ⟨p, 2, none⟩ = some (.int .u32 (e2 : Int)) := fun z hz => (four_cells (Hpb.out z (Hf.out.drew.none hz))).2.2.1
            have hk0 : (0 : Int) ≤ (k : Int) := by omega
            clear hca ha hbk
            go_wp2_with fail
            refine wp_region_tree (fun _ => False) (.take 0 (.take 1 (.take 2 (.take 3 (.take 4 (.take 5 (.take 6 (.take 7 (.take 8 (.take 9 (.take 10 (.one 11 (.take 12 .nil))))))))))))) (by kernel_rfl) (by kernel_rfl) (by decide) (by kernel_rfl) ?_
            repeat (refine wpT_take (v := ?_) rfl rfl (fun x hx => ?_) ?_; rotate_left; (focus (go_simp; with_reducible rfl)); simp only [Act.put, List.setIfInBounds_toArray, List.set_cons_zero, List.set_cons_succ])
            refine wpT_one rfl rfl (fun K hK => ?_)
            go_simp
            refine (refLess8_any (a, b) (e1, e2) _).mono ?_
            rw [HB2.out]
            rintro r x3 ⟨rfl, g⟩
            refine hK _ _ g ?_
            clear hK K ka kb kc kd
            have G3 : Hid (Fr wr x3 (fun _ => False)) := (Fr.refl wr (fun _ => False)).drew.none g
            clear g
            repeat (refine wpT_take (v := ?_) rfl rfl (fun x hx => ?_) ?_; rotate_left; (focus (go_simp; with_reducible rfl)); simp only [Act.put, List.setIfInBounds_toArray, List.set_cons_zero, List.set_cons_succ])
            unfold wpT
            go_wp2_with fail
            go_meet
            case rel => exact ⟨rfl, G3.out⟩
          · have hin : ¬ (k : Int) < (n : Int) := by omega
            have hin' : decide (k < n) = false := decide_eq_false hlt
            have HB2 : Hid (B = false) := by
              show _ = _
              rw [HB.out]
              unfold lessAt
              rw [List.getElem?_eq_none (by rw [← Hn.out]; omega)]
              rfl
            obtain rfl := HB2.out
            go_wp2_with fail
            refine wp_region_tree (fun _ => False) (.take 0 (.take 1 (.take 2 (.take 3 (.take 4 (.take 5 (.take 6 (.take 7 (.take 8 (.take 9 (.take 10 (.one 11 (.take 12 .nil))))))))))))) (by kernel_rfl) (by kernel_rfl) (by decide) (by kernel_rfl) ?_
            iterate 5 (refine wpT_take (v := ?_) rfl rfl (fun x hx => ?_) ?_; rotate_left; (focus (go_simp; with_reducible rfl)); simp only [Act.put, List.setIfInBounds_toArray, List.set_cons_zero, List.set_cons_succ])
            iterate 6 (refine wpT_pass rfl rfl ?_; simp only [Act.put, List.setIfInBounds_toArray, List.set_cons_zero, List.set_cons_succ])
            refine wpT_skip rfl rfl ?_
            simp only [Act.put, List.setIfInBounds_toArray, List.set_cons_zero, List.set_cons_succ]
            repeat (refine wpT_take (v := ?_) rfl rfl (fun x hx => ?_) ?_; rotate_left; (focus (go_simp; with_reducible rfl)); simp only [Act.put, List.setIfInBounds_toArray, List.set_cons_zero, List.set_cons_succ])
            have G3 : Hid (Fr wr wr.drew (fun _ => False)) := (Fr.refl wr (fun _ => False)).drew
            unfold wpT
            go_wp2_with fail
            go_meet
            case rel => exact ⟨rfl, G3.out⟩
        case rest =>
          obtain ⟨rfl, hfc⟩ := hcut
          rename_i hKc
          refine hKc _ _ ?_
          clear hKc
          have Hfc : Hid (Fr wa wc (fun _ => False)) := Hf.out.none hfc
          clear hfc
          cases B with
          | true =>
            have hkn : k < n := by
              have h1 := HB.out
              unfold lessAt at h1
              cases h2 : es[k]? with
              | none => rw [h2] at h1; cases h1
              | some y => have := (List.getElem?_eq_some_iff.1 h2).1; have := Hn.out; omega
            have Hle2 : Hid (∀ j x, j < k + 1 → es[j]? = some x → eLess x (e1, e2) = true) := fun j x hj hx => by
              by_cases h : j < k
              · exact Hle.out j x h hx
              · have e : j = k := by omega
                subst e
                have h1 := HB.out
                unfold lessAt at h1
                rw [hx] at h1
                exact h1.symm
            go_wp2_with fail
            go_roundg (n - (k + 1))
            case rel => exact ⟨k + 1, rfl, by omega, by go_num, Hle2.out, Hfc.out⟩
            case measure => rw [Hg.out]; omega
          | false =>
            have Hpos : Hid (posF es (e1, e2) = k) := lessAt_end (by rw [← Hn.out]; exact hk) Hle.out HB.out.symm
            obtain rfl : TF = some (es.take k ++ (e1, e2) :: es.drop k) := by rw [HTF.out, Hres.out, Hpos.out]
            obtain ⟨W, hW⟩ : ∃ W, W = wc.drew := ⟨_, rfl⟩
            have HfW : Hid (Fr wa W (fun _ => False)) := by rw [hW]; exact Hfc.out.drew
            have kc : ∀ z, Fr W z (fun k => W.heap.size ≤ k) → z.cell? ⟨p, 1, none⟩ = some (.int .u32 (e1 : Int)) := fun z hz => (four_cells (Hpb.out z (HfW.out.none (hz.old (Nat.le_refl _))))).2.1
            have kd : ∀ z, Fr W z (fun k => W.heap.size ≤ k) → z.cell? ⟨p, 2, none⟩ = some (.int .u32 (e2 : Int)) := fun z hz => (four_cells (Hpb.out z (HfW.out.none (hz.old (Nat.le_refl _))))).2.2.1
            have hkc : (k : Int) ≤ (c0 : Int) := by omega
            have hkn : (k : Int) ≤ (n : Int) := by omega
            have hk0 : (0 : Int) ≤ (k : Int) := by omega
            obtain ⟨A, hA⟩ : ∃ A, (if c0 = k then a0 else Option.map (fun x => x.add (k * 2)) a0) = A := ⟨_, rfl⟩
            have Hpre : Hid (RdE W (.slice a0 k c0) (es.take k)) := (Hr.out W HfW.out).take Hn.out.symm k hk
            have Hpost : Hid (RdE W (.slice A (n - k) (c0 - k)) (es.drop k)) := by rw [← hA]; exact (Hr.out W HfW.out).drop Hn.out.symm k hk
            have Hsz : Hid (w.heap.size ≤ W.heap.size) := (Hwa.out.none HfW.out).size
            have Hll : Hid ((es.take k).length + 1 + (es.drop k).length ≤ 2000000) := by have := Hl.out; show _ ≤ _; rw [List.length_take, List.length_drop]; omega
            go_wp2_with fail
            refine wp_region_tree (fun k => W.heap.size ≤ k) (.take 0 (.take 1 (.take 2 (.take 4 (.take 5 (.take 8 (.take 9 (.take 10 (.two 3 (.one 6 (.one 7 (.one 11 (.take 12 (.take 13 .nil))))) 6 (.one 3 (.one 7 (.one 11 (.take 12 (.take 13 .nil)))))))))))))) (by kernel_rfl) (by kernel_rfl) (by decide) (by kernel_rfl) ?_
            rw [← hW]
            clear hW
            repeat (refine wpT_take (v := ?_) rfl rfl (fun x hx => ?_) ?_; rotate_left; (focus (go_simp; with_reducible rfl)); simp only [Act.put, List.setIfInBounds_toArray, List.set_cons_zero, List.set_cons_succ])
            clear kc kd
            have e0 : Fr W W (fun k => W.heap.size ≤ k) := Fr.refl _ _
            refine wpT_two rfl rfl rfl rfl (fun K hK => ?_) (fun K hK => ?_)
            · obtain ⟨v4, w4, hrun4, ho4, hf4, hn4⟩ := app_edges_nil W (.slice a0 k c0) _ W.heap.size (Nat.le_refl _) Hpre.out (by have := Hll.out; omega)
              refine op_append_run (.const (.slice none 0 0)) (.tmp 50) 55 rfl rfl rfl hrun4 ?_
              refine hK _ _ hf4 ?_
              clear hK K
              simp only [Act.put, List.setIfInBounds_toArray, List.set_cons_zero, List.set_cons_succ]
              refine wpT_one rfl rfl (fun K hK => ?_)
              go_simp
              refine hK _ _ (((Fr.refl w4 (fun _ => False)).alloc _).mono (fun _ _ h => h.elim)) ?_
              clear hK K
              have hfl : Fr W (w4.alloc (.cells #[.int .u32 (e1 : Int), .int .u32 (e2 : Int)] 40)) (fun k => W.heap.size ≤ k) := hf4.alloc _
              have hlit := lit_edge w4 e1 e2
              have hof := ho4.alloc (.cells #[.int .u32 (e1 : Int), .int .u32 (e2 : Int)] 40)
              obtain ⟨v5, w5, hrun5, ho5, hf5, hn5⟩ := app_edges_new _ v4 _ _ [(e1, e2)] W.heap.size hfl.size hof hn4 hlit (by have := Hll.out; simp only [List.length_singleton]; omega)
              refine wpT_one rfl rfl (fun K hK => ?_)
              refine op_append_run (.tmp 51) (.tmp 54) 55 rfl rfl rfl hrun5 ?_
              refine hK _ _ hf5 ?_
              clear hK K
              simp only [Act.put, List.setIfInBounds_toArray, List.set_cons_zero, List.set_cons_succ]
              have hf6 : Fr W w5 (fun k => W.heap.size ≤ k) := hfl.trans hf5 (fun _ _ h => h)
              obtain ⟨v6, w6, hrun6, ho6, hf7, hn6⟩ := app_edges_new w5 v5 (.slice A (n - k) (c0 - k)) _ _ W.heap.size hf6.size ho5 hn5 (Hpost.out.keep (hf6.old (Nat.le_refl _))) (by have := Hll.out; rw [List.length_append, List.length_singleton]; omega)
              refine wpT_one rfl rfl (fun K hK => ?_)
              refine op_append_run (.tmp 55) (.tmp 58) 55 rfl rfl rfl hrun6 ?_
              refine hK _ _ hf7 ?_
              clear hK K
              simp only [Act.put, List.setIfInBounds_toArray, List.set_cons_zero, List.set_cons_succ]
              repeat (refine wpT_take (v := ?_) rfl rfl (fun x hx => ?_) ?_; rotate_left; (focus (go_simp; with_reducible rfl)); simp only [Act.put, List.setIfInBounds_toArray, List.set_cons_zero, List.set_cons_succ])
              have Hfo : Hid (Fr w w6 (fun _ => False)) := (Hwa.out.none HfW.out).none ((hf6.trans hf7 (fun _ _ h => h)).old (Nat.le_refl _))
              have Ho6 : Hid (OwnE w6 v6 (es.take k ++ (e1, e2) :: es.drop k)) := by rw [List.append_assoc] at ho6; exact ho6
              have Hn6 : Hid _ := hn6
              clear hf4 hf5 hf6 hf7 hfl ho4 ho5 ho6 hn4 hn5 hn6 hrun4 hrun5 hrun6 hlit
              unfold wpT
              go_wp2
              go_ret2
              exact ⟨⟨_, rfl, Ho6.out.rd, fun k hk => Nat.le_trans Hsz.out (Hn6.out k hk)⟩, Hfo.out⟩
            · go_simp
              refine hK _ _ (((Fr.refl W (fun _ => False)).alloc _).mono (fun _ _ h => h.elim)) ?_
              clear hK K
              have hfl : Fr W (W.alloc (.cells #[.int .u32 (e1 : Int), .int .u32 (e2 : Int)] 40)) (fun k => W.heap.size ≤ k) := e0.alloc _
              have hlit := lit_edge W e1 e2
              obtain ⟨v4, w4, hrun4, ho4, hf4a, hn4a⟩ := app_edges_nil _ (.slice a0 k c0) _ (W.heap.size + 1) (by simp) (Hpre.out.keep (hfl.old (Nat.le_refl _))) (by have := Hll.out; omega)
              have hf4 := hf4a.mono (T := fun k => W.heap.size ≤ k) (fun i _ hi => by omega)
              have hn4 : ∀ k, v4.ownBlock = some k → W.heap.size ≤ k := fun k hk => by have := hn4a k hk; omega
              refine wpT_one rfl rfl (fun K hK => ?_)
              refine op_append_run (.const (.slice none 0 0)) (.tmp 50) 55 rfl rfl rfl hrun4 ?_
              refine hK _ _ hf4 ?_
              clear hK K
              simp only [Act.put, List.setIfInBounds_toArray, List.set_cons_zero, List.set_cons_succ]
              have hlit2 := hlit.frame hf4a (fun _ k hk => by simp [Value.ownBlock] at hk; subst hk; omega)
              obtain ⟨v5, w5, hrun5, ho5, hf5, hn5⟩ := app_edges_new _ v4 _ _ [(e1, e2)] W.heap.size (hfl.trans hf4 (fun _ _ h => h)).size ho4 hn4 hlit2 (by have := Hll.out; simp only [List.length_singleton]; omega)
              refine wpT_one rfl rfl (fun K hK => ?_)
              refine op_append_run (.tmp 51) (.tmp 54) 55 rfl rfl rfl hrun5 ?_
              refine hK _ _ hf5 ?_
              clear hK K
              simp only [Act.put, List.setIfInBounds_toArray, List.set_cons_zero, List.set_cons_succ]
              have hf6 : Fr W w5 (fun k => W.heap.size ≤ k) := (hfl.trans hf4 (fun _ _ h => h)).trans hf5 (fun _ _ h => h)
              obtain ⟨v6, w6, hrun6, ho6, hf7, hn6⟩ := app_edges_new w5 v5 (.slice A (n - k) (c0 - k)) _ _ W.heap.size hf6.size ho5 hn5 (Hpost.out.keep (hf6.old (Nat.le_refl _))) (by have := Hll.out; rw [List.length_append, List.length_singleton]; omega)
              refine wpT_one rfl rfl (fun K hK => ?_)
              refine op_append_run (.tmp 55) (.tmp 58) 55 rfl rfl rfl hrun6 ?_
              refine hK _ _ hf7 ?_
              clear hK K
              simp only [Act.put, List.setIfInBounds_toArray, List.set_cons_zero, List.set_cons_succ]
              repeat (refine wpT_take (v := ?_) rfl rfl (fun x hx => ?_) ?_; rotate_left; (focus (go_simp; with_reducible rfl)); simp only [Act.put, List.setIfInBounds_toArray, List.set_cons_zero, List.set_cons_succ])
              have Hfo : Hid (Fr w w6 (fun _ => False)) := (Hwa.out.none HfW.out).none ((hf6.trans hf7 (fun _ _ h => h)).old (Nat.le_refl _))
              have Ho6 : Hid (OwnE w6 v6 (es.take k ++ (e1, e2) :: es.drop k)) := by rw [List.append_assoc] at ho6; exact ho6
              have Hn6 : Hid _ := hn6
              clear hf4 hf5 hf6 hf7 hfl ho4 ho5 ho6 hn4 hn5 hn6 hrun4 hrun5 hrun6 hlit
              unfold wpT
              go_wp2
              go_ret2
              exact ⟨⟨_, rfl, Ho6.out.rd, fun k hk => Nat.le_trans Hsz.out (Hn6.out k hk)⟩, Hfo.out⟩
    -- goes
  | true =>
    cases ad with
    | true =>
      have Hres : Hid (turnF es (e1, e2) true = none) := by show _ = _; unfold turnF; rw [if_pos (.inr HD.out)]
      obtain rfl := HTF.out.trans Hres.out
      go_wp2
      go_ret2
      exact ⟨⟨_, rfl, RdE.nil _, fun k hk => by simp [Value.ownBlock] at hk⟩, Hw2.out⟩
    | false =>
      have hmem : (e1, e2) ∈ es := of_decide_eq_true HD.out.symm
      obtain ⟨k, hk⟩ : ∃ k, k = es.idxOf (e1, e2) := ⟨_, rfl⟩
      have hkn : k < n := by rw [hk, Hn.out]; exact List.idxOf_lt_length_of_mem hmem
      obtain rfl : F = (k : Int) := by rw [HF.out, hk]; unfold findF; rw [if_pos hmem]
      have Hres : Hid (turnF es (e1, e2) false = some (es.take k ++ es.drop (k + 1))) := by
        show _ = _
        unfold turnF
        rw [← HR.out, ← HD.out, if_neg (by simp), if_neg (by simp), hk]
      obtain rfl := HTF.out.trans Hres.out
      clear hk hmem
      obtain ⟨W, hW⟩ : ∃ W, W = x2.drew := ⟨_, rfl⟩
      have HfW : Hid (Fr wa W (fun _ => False)) := by rw [hW]; exact G2.out.drew
      obtain ⟨k1, hk1⟩ : ∃ k1, k1 = k + 1 := ⟨_, rfl⟩
      have wk : IntKind.i64.wrap ((k : Int) + 1) = (k1 : Int) := by rw [IntWalk.i64_in _ (by omega)]; omega
      have hkc : (k : Int) ≤ (c0 : Int) := by omega
      have hk0 : (0 : Int) ≤ (k : Int) := by omega
      have hk10 : (0 : Int) ≤ (k1 : Int) := by omega
      have hk1n : (k1 : Int) ≤ (n : Int) := by omega
      obtain ⟨A, hA⟩ : ∃ A, (if c0 = k1 then a0 else Option.map (fun x => x.add (k1 * 2)) a0) = A := ⟨_, rfl⟩
      have Hpre : Hid (RdE W (.slice a0 k c0) (es.take k)) := (Hr.out W HfW.out).take Hn.out.symm k (by omega)
      have Hpost : Hid (RdE W (.slice A (n - k1) (c0 - k1)) (es.drop (k + 1))) := by rw [← hA, ← hk1]; exact (Hr.out W HfW.out).drop Hn.out.symm k1 (by omega)
      have Hsz : Hid (w.heap.size ≤ W.heap.size) := (Hwa.out.none HfW.out).size
      have Hll : Hid ((es.take k).length + (es.drop (k + 1)).length ≤ 2000000) := by have := Hl.out; show _ ≤ _; rw [List.length_take, List.length_drop]; omega
      have Hk1 : Hid _ := hk1
      clear hk1
      go_wp2_with fail
      refine wp_region_tree (fun k => W.heap.size ≤ k) (.take 0 (.take 1 (.take 2 (.take 4 (.take 5 (.take 6 (.take 7 (.one 3 (.one 8 (.take 9 (.take 10 .nil))))))))))) (by kernel_rfl) (by kernel_rfl) (by decide) (by kernel_rfl) ?_
      rw [← hW]
      clear hW
      repeat (refine wpT_take (v := ?_) rfl rfl (fun x hx => ?_) ?_; rotate_left; (focus (go_simp; with_reducible rfl)); simp only [Act.put, List.setIfInBounds_toArray, List.set_cons_zero, List.set_cons_succ])
      obtain ⟨v4, w4, hrun4, ho4, hf4, hn4⟩ := app_edges_nil W (.slice a0 k c0) _ W.heap.size (Nat.le_refl _) Hpre.out (by have := Hll.out; omega)
      refine wpT_one rfl rfl (fun K hK => ?_)
      refine op_append_run (.const (.slice none 0 0)) (.tmp 26) 55 rfl rfl rfl hrun4 ?_
      refine hK _ _ hf4 ?_
      clear hK K
      simp only [Act.put, List.setIfInBounds_toArray, List.set_cons_zero, List.set_cons_succ]
      obtain ⟨v5, w5, hrun5, ho5, hf5, hn5⟩ := app_edges_new w4 v4 (.slice A (n - k1) (c0 - k1)) _ _ W.heap.size hf4.size ho4 hn4 (Hpost.out.keep (hf4.old (Nat.le_refl _))) (by have := Hll.out; omega)
      refine wpT_one rfl rfl (fun K hK => ?_)
      refine op_append_run (.tmp 27) (.tmp 31) 55 rfl rfl rfl hrun5 ?_
      refine hK _ _ hf5 ?_
      clear hK K
      simp only [Act.put, List.setIfInBounds_toArray, List.set_cons_zero, List.set_cons_succ]
      repeat (refine wpT_take (v := ?_) rfl rfl (fun x hx => ?_) ?_; rotate_left; (focus (go_simp; with_reducible rfl)); simp only [Act.put, List.setIfInBounds_toArray, List.set_cons_zero, List.set_cons_succ])
      have Hfo : Hid (Fr w w5 (fun _ => False)) := ((Hwa.out.none HfW.out).none (hf4.old (Nat.le_refl _))).newer hf5 (fun i hi => Nat.le_trans Hsz.out hi)
      have Ho5 : Hid (OwnE w5 v5 (es.take k ++ es.drop (k + 1))) := ho5
      have Hn5 : Hid _ := hn5
      clear hf4 hf5 ho4 ho5 hn4 hn5 hrun4 hrun5
      unfold wpT
      go_wp2
      go_ret2
      exact ⟨⟨_, rfl, Ho5.out.rd, fun k hk => Nat.le_trans Hsz.out (Hn5.out k hk)⟩, Hfo.out⟩

end Go.Proofs.Ytojeaggnknnnoaa
