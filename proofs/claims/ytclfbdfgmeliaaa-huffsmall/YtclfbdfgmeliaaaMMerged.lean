/-
  The contract of merge's merged.
-/
import Derived.Test.YtclfbdfgmeliaaaMPack
namespace Go.Proofs.Ytclfbdfgmeliaaa
open Go.RowKit

theorem mgN (wt : Nat → Nat) (c : List (List Nat)) : mg wt c [] = c := by cases c <;> simp [mg]
theorem mgC (wt : Nat → Nat) {l R : List (List Nat)} {n : Nat} {c p : List Nat} (h : l[n]? = some c) (hle : W wt c ≤ W wt p) : mg wt (l.drop n) (p :: R) = c :: mg wt (l.drop (n + 1)) (p :: R) := by
  have hn := (List.getElem?_eq_some_iff.1 h).1
  have e : l[n] = c := (List.getElem?_eq_some_iff.1 h).2
  rw [List.drop_eq_getElem_cons hn, e, mg, if_pos hle]
theorem mgP (wt : Nat → Nat) {l R : List (List Nat)} {n : Nat} {p : List Nat} (h : ∀ c, l[n]? = some c → W wt p < W wt c) : mg wt (l.drop n) (p :: R) = p :: mg wt (l.drop n) R := by
  rcases Nat.lt_or_ge n l.length with hn | hn
  · have := h _ (List.getElem?_eq_getElem hn)
    rw [List.drop_eq_getElem_cons hn, mg, if_neg (by omega)]
  · rw [List.drop_eq_nil_of_le hn]
    simp [mg]
theorem drop_at {α : Type} {l : List α} {i : Nat} {p : α} (h : l[i]? = some p) : l.drop i = p :: l.drop (i + 1) := by
  obtain ⟨h1, rfl⟩ := List.getElem?_eq_some_iff.1 h
  rw [List.drop_eq_getElem_cons h1]

set_option maxRecDepth 4000 in
set_option maxHeartbeats 800000 in
theorem merged_any (wt : Nat → Nat) (vc vm : Value) (cs ms : List (List Nat)) (w : World) (hc : RdL wt w vc cs) (hm : RdL wt w vm ms) (hcl : cs.length ≤ 1000) (hml : ms.length ≤ 1000) :
    Calls Try.prog 52 #[vc, vm] w fun e w' => ∃ sv, e = .returned sv ∧ OwnL wt w' sv (mg wt cs ms) ∧ Fr w w' (fun _ => False) := by
  obtain ⟨ac, cc, rfl, hcc⟩ := RdX.form hc
  obtain ⟨am, cm, rfl, hcm⟩ := RdX.form hm
  rw [List.length_map] at hcc hcm hc hm
  rw [List.length_map, List.length_map]
  have Hc : Hid (RdL wt w (.slice ac cs.length cc) cs) := hc
  have Hm : Hid (RdL wt w (.slice am ms.length cm) ms) := hm
  obtain ⟨nc, hnc⟩ : ∃ n, n = cs.length := ⟨_, rfl⟩
  obtain ⟨nm, hnm⟩ : ∃ n, n = ms.length := ⟨_, rfl⟩
  rw [← hnc] at Hc hcc hcl ⊢
  rw [← hnm] at Hm hcm hml ⊢
  have Hnc : Hid _ := hnc
  have Hnm : Hid _ := hnm
  clear hc hm hnc hnm
  have hsum : IntKind.i64.wrap ((nc : Int) + (nm : Int)) = ((nc + nm : Nat) : Int) := by rw [IntWalk.i64_in _ (by omega)]; omega
  go_enter Try.func52, Try.ntmps52
  obtain ⟨i0, hi0, hz0, hz1, hz2⟩ := info_parts Try.info77
  go_wp2_with (at_make; refine wpList_make_own _ rfl _ _ 74 rfl 0 77 i0 _ 2 Try.underlying74 hi0 hz0 hz1 _ _ _ (nc + nm) rfl rfl (by simp) ?b1 ?b2 (Nat.zero_le _) ?_)
  case b1 => rw [hz2]; omega
  case b2 => unfold maxLen; omega
  intro wm hown hgrow
  have hfm : Fr w wm (fun _ => False) := (Fr.refl w _).grown hgrow (fun k hk => by cases hk)
  have Hown : Hid (OwnL wt wm (.slice (some ⟨w.heap.size, 0, none⟩) 0 (nc + nm)) []) := hown
  clear hown hgrow hi0 hz0 hz1 hz2
  go_wp2_with fail
  go_loopg [5, 6, 17] nm (fun g S N I wr => ∃ (n i : Nat) (rs : List (List Nat)), g = nm - i ∧ i ≤ nm ∧ n ≤ nc ∧ N = .int .i64 (n : Int) ∧ I = .int .i64 (i : Int) ∧ OwnL wt wr S rs ∧ rs.length ≤ n + i ∧ rs ++ mg wt (cs.drop n) (ms.drop i) = mg wt cs ms ∧ Fr w wr (fun _ => False) ∧ (∀ k, S.ownBlock = some k → w.heap.size ≤ k))
  case atStart => exact ⟨0, 0, [], rfl, by omega, by omega, rfl, rfl, Hown.out, by simp, by simp, hfm, fun k hk => (by simp [Value.ownBlock] at hk; omega)⟩
  case round =>
    obtain ⟨n, i, rs, hg, hi, hn, rfl, rfl, ho, hrl, hst, hf, hnew⟩ := hrel
    have Hg : Hid _ := hg
    have Hst : Hid _ := hst
    have Ho : Hid (OwnL wt wr u5 rs) := ho
    have Hnew : Hid _ := hnew
    clear hg hst ho hnew
    by_cases hlt : i < nm
    · obtain ⟨p, hp⟩ : ∃ p, ms[i]? = some p := ⟨_, List.getElem?_eq_getElem (by rw [← Hnm.out]; omega)⟩
      obtain ⟨b, off, cp, e, hb0, kx⟩ := (RdX.keep Hm.out hf).get i (itm wt p) (by rw [List.getElem?_map, hp]; rfl)
      simp only [Value.slice.injEq] at e
      obtain ⟨rfl, -, rfl⟩ := e
      have Hst2 : Hid (rs ++ mg wt (cs.drop n) (p :: ms.drop (i + 1)) = mg wt cs ms) := by
        show _ = _
        rw [← drop_at hp]
        exact Hst.out
      obtain ⟨c0, c1⟩ := kx wr (Fr.refl _ _)
      obtain ⟨X, hX⟩ : ∃ X, X = (itm wt p).1 := ⟨_, rfl⟩
      obtain ⟨Y, hY⟩ : ∃ Y, Y = (itm wt p).2 := ⟨_, rfl⟩
      rw [← hX] at c0
      rw [← hY] at c1
      have Hit : Hid (itm wt p = (X, Y)) := by show _ = _; rw [hX, hY]
      have HX : Hid (X = ((W wt p : Nat) : Int)) := by show _ = _; rw [hX]; rfl
      have hi1 : (i : Int) < (nm : Int) := by omega
      have Hu5 : Hid (∀ k, u5.ownBlock = some k → k < wr.heap.size) := Ho.out.lt
      obtain ⟨G, hG⟩ : ∃ G, G = wr.heap.size := ⟨_, rfl⟩
      have HG : Hid _ := hG
      clear kx hX hY hp
      go_wp2_with fail
      rw [← HG.out]
      clear hG
      go_loopg [5, 6] (nc - n) (fun gg S N wi => ∃ (m : Nat) (ts : List (List Nat)), gg = nc - m ∧ m ≤ nc ∧ N = .int .i64 (m : Int) ∧ OwnL wt wi S ts ∧ ts.length ≤ m + i ∧ ts ++ mg wt (cs.drop m) (p :: ms.drop (i + 1)) = mg wt cs ms ∧ Fr w wi (fun _ => False) ∧ (∀ k, S.ownBlock = some k → w.heap.size ≤ k ∧ k ≠ G) ∧
          wi.heap[G]? = some (.cells #[.int .i64 X, .int .i64 Y] 77 (0, 0)))
      case atStart => exact ⟨n, rs, rfl, hn, rfl, OwnX.keep Ho.out ((Fr.refl wr _).alloc _), hrl, Hst2.out, hf.alloc _, fun k hk => ⟨Hnew.out k hk, by have := Hu5.out k hk; have := HG.out; omega⟩, by rw [HG.out]; exact heap_alloc_new _ _⟩
      case round =>
        clear Ho Hnew Hu5 hrl hf c0 c1 hb0 HG Hst Hst2
        obtain ⟨m, ts, hgg, hm, rfl, hoi, htl, hti, hfi, hSi, hbi⟩ := hrel
        have Hgg : Hid _ := hgg
        have Hti : Hid _ := hti
        have Hoi : Hid (OwnL wt wr u5 ts) := hoi
        have HSi : Hid _ := hSi
        have Hbi : Hid _ := hbi
        have hw : ∀ x, Fr wr.drew x (fun _ => False) → x.cell? ⟨G, 0, none⟩ = some (.int .i64 X) := fun x hx => two_cell0 (((Fr.refl wr (fun _ => False)).drew.none hx).kept hbi (fun h => h))
        clear hgg hti hoi hSi hbi
        by_cases hmc : m < nc
        · obtain ⟨pc, hpc⟩ : ∃ p, cs[m]? = some p := ⟨_, List.getElem?_eq_getElem (by rw [← Hnc.out]; exact hmc)⟩
          obtain ⟨b2, off2, cp2, e, hb2, kc⟩ := (RdX.keep Hc.out hfi).get m (itm wt pc) (by rw [List.getElem?_map, hpc]; rfl)
          simp only [Value.slice.injEq] at e
          obtain ⟨rfl, -, rfl⟩ := e
          obtain ⟨C, hC⟩ : ∃ X, X = (itm wt pc).1 := ⟨_, rfl⟩
          obtain ⟨D, hD⟩ : ∃ Y, Y = (itm wt pc).2 := ⟨_, rfl⟩
          rw [← hC, ← hD] at kc
          have Hic : Hid (itm wt pc = (C, D)) := by show _ = _; rw [hC, hD]
          have HC : Hid (C = ((W wt pc : Nat) : Int)) := by show _ = _; rw [hC]; rfl
          have Hkc : Hid _ := kc
          have kc0 : ∀ x, Fr wr.drew x (fun _ => False) → x.cell? ⟨b2, off2 + m * 2, none⟩ = some (.int .i64 C) := fun x hx => (kc x ((Fr.refl wr _).drew.none hx)).1
          have Hpc : Hid _ := hpc
          have hm1 : (m : Int) < (nc : Int) := by omega
          clear hC hD kc hpc
          by_cases hle : C ≤ X
          · have hd : decide (C ≤ X) = true := decide_eq_true hle
            go_wp2
            refine wp_region_all (fun _ => False) [.c ?_, .c ?_, .c ?_, .c ?_, .c ?_, .c ?_, .c ?_, .c ?_, .c ?_, .c ?_, .c ?_, .c ?_, .c ?_, .c ?_] (by kernel_rfl) (by kernel_rfl) rfl ?last ?walk
            case last => repeat (first | exact Lasts.nil | refine Lasts.c ?_)
            case walk =>
              repeat (first | (refine wpAll_take rfl rfl (fun x hx => ?_) ?_; (focus (go_simp; with_reducible rfl)); simp only [Act.put, List.setIfInBounds_toArray, List.set_cons_zero, List.set_cons_succ]) | (refine wpAll_pass rfl rfl ?_ ?_; (focus rfl); simp only [Act.put, List.setIfInBounds_toArray, List.set_cons_zero, List.set_cons_succ]))
              refine wpAll_nil (fun wx hfx _ => ?_)
              replace hfx := (Fr.refl wr (fun _ => False)).drew.none hfx
              obtain ⟨cx0, cx1⟩ := Hkc.out wx hfx
              obtain ⟨v5, w5, hrun5, ho5, hf5, hm5⟩ := app_x_lit wx u5 _ C D (OwnX.keep Hoi.out hfx) (by simp; omega)
              have hfwx := hfi.none hfx
              have Hro : Hid (OwnL wt w5 v5 (ts ++ [pc])) := by
                show OwnX _ _ _
                rw [List.map_append, List.map_singleton, Hic.out]
                exact ho5
              have Hfo : Hid (Fr w w5 (fun _ => False)) := hfwx.newer hf5 (fun k hk => (HSi.out k hk).1)
              have Hbo : Hid _ := hf5.kept (hfx.kept Hbi.out (fun h => h)) (fun h => (HSi.out G h).2 rfl)
              have HSo : Hid (∀ k, v5.ownBlock = some k → w.heap.size ≤ k ∧ k ≠ G) := fun k hk => by
                rcases hm5 k hk with h | h
                · exact HSi.out k h
                · have := hfwx.size
                  have := lt_of_block (hfx.kept Hbi.out (fun h => h))
                  exact ⟨by omega, by omega⟩
              have Hs3 : Hid (ts ++ [pc] ++ mg wt (cs.drop (m + 1)) (p :: ms.drop (i + 1)) = mg wt cs ms) := by
                show _ = _
                have := Hti.out
                rw [mgC wt Hpc.out (by have := HX.out; have := HC.out; omega)] at this
                rw [← this]
                simp
              clear ho5 hf5 hm5 hfx hfwx
              go_wp2_with (at_builtin; refine wpList_append_run rfl (.tmp 35) (.tmp 40) 74 rfl rfl rfl hrun5 ?_)
              go_roundg (nc - (m + 1))
              case rel => exact ⟨m + 1, ts ++ [pc], rfl, by omega, by go_num, Hro.out, by simp; omega, Hs3.out, Hfo.out, HSo.out, Hbo.out⟩
              case measure => rw [Hgg.out]; omega
          · have hd : decide (C ≤ X) = false := decide_eq_false hle
            have Hex : Hid (∀ c, cs[m]? = some c → W wt p < W wt c) := fun c hc => by
              have e := Hpc.out
              rw [hc] at e
              simp only [Option.some.injEq] at e
              subst e
              have := HX.out
              have := HC.out
              omega
            go_wp2
            refine wp_region_all (fun _ => False) [.c ?_, .c ?_, .c ?_, .c ?_, .c ?_, .c ?_, .c ?_, .c ?_, .c ?_, .c ?_, .c ?_, .c ?_, .c ?_, .c ?_] (by kernel_rfl) (by kernel_rfl) rfl ?last ?walk
            case last => repeat (first | exact Lasts.nil | refine Lasts.c ?_)
            case walk =>
              repeat (first | (refine wpAll_take rfl rfl (fun x hx => ?_) ?_; (focus (go_simp; with_reducible rfl)); simp only [Act.put, List.setIfInBounds_toArray, List.set_cons_zero, List.set_cons_succ]) | (refine wpAll_pass rfl rfl ?_ ?_; (focus rfl); simp only [Act.put, List.setIfInBounds_toArray, List.set_cons_zero, List.set_cons_succ]))
              refine wpAll_nil (fun wx hfx _ => ?_)
              replace hfx := (Fr.refl wr (fun _ => False)).drew.none hfx
              have hbx := hfx.kept Hbi.out (fun h => h)
              have hox := OwnX.keep Hoi.out hfx
              replace hfx := hfi.none hfx
              obtain ⟨v5, w5, hrun5, ho5, hf5, hm5⟩ := app_x_lit wx u5 _ X Y hox (by simp; omega)
              have Hro : Hid (OwnL wt w5 v5 (ts ++ [p])) := by
                show OwnX _ _ _
                rw [List.map_append, List.map_singleton, Hit.out]
                exact ho5
              have Hfo : Hid (Fr w w5 (fun _ => False)) := hfx.newer hf5 (fun k hk => (HSi.out k hk).1)
              have Hnw : Hid (∀ k, v5.ownBlock = some k → w.heap.size ≤ k) := fun k hk => by
                rcases hm5 k hk with h | h
                · exact (HSi.out k h).1
                · have := hfx.size; omega
              have cg0 := two_cell0 hbx
              have cg1 := two_cell1 hbx
              clear ho5 hf5 hm5 hbx hox hfx
              go_wp2_with (at_builtin; refine wpList_append_run rfl (.tmp 44) (.tmp 46) 74 rfl rfl rfl hrun5 ?_)
              go_roundg (nm - (i + 1))
              case rel =>
                refine ⟨m, i + 1, ts ++ [p], rfl, by omega, hm, rfl, by go_num, Hro.out, by simp; omega, ?_, Hfo.out, Hnw.out⟩
                have := Hti.out
                rw [mgP wt Hex.out] at this
                rw [← this]
                simp
              case measure => rw [Hg.out]; omega
        · have hm1 : ¬ (m : Int) < (nc : Int) := by omega
          have hm2 : decide ((m : Int) < (nc : Int)) = false := decide_eq_false hm1
          have Hex : Hid (∀ c, cs[m]? = some c → W wt p < W wt c) := fun c hc => by
            have := (List.getElem?_eq_some_iff.1 hc).1
            have := Hnc.out
            omega
          go_wp2
          refine wp_region_all (fun _ => False) [.c ?_, .c ?_, .c ?_, .c ?_, .c ?_, .c ?_, .c ?_, .c ?_, .c ?_, .c ?_, .c ?_, .c ?_, .c ?_, .c ?_] (by kernel_rfl) (by kernel_rfl) rfl ?last ?walk
          case last => repeat (first | exact Lasts.nil | refine Lasts.c ?_)
          case walk =>
            repeat (first | (refine wpAll_take rfl rfl (fun x hx => ?_) ?_; (focus (go_simp; with_reducible rfl)); simp only [Act.put, List.setIfInBounds_toArray, List.set_cons_zero, List.set_cons_succ]) | (refine wpAll_pass rfl rfl ?_ ?_; (focus rfl); simp only [Act.put, List.setIfInBounds_toArray, List.set_cons_zero, List.set_cons_succ]))
            refine wpAll_nil (fun wx hfx _ => ?_)
            replace hfx := (Fr.refl wr (fun _ => False)).drew.none hfx
            have hbx := hfx.kept Hbi.out (fun h => h)
            have hox := OwnX.keep Hoi.out hfx
            replace hfx := hfi.none hfx
            obtain ⟨v5, w5, hrun5, ho5, hf5, hm5⟩ := app_x_lit wx u5 _ X Y hox (by simp; omega)
            have Hro : Hid (OwnL wt w5 v5 (ts ++ [p])) := by
              show OwnX _ _ _
              rw [List.map_append, List.map_singleton, Hit.out]
              exact ho5
            have Hfo : Hid (Fr w w5 (fun _ => False)) := hfx.newer hf5 (fun k hk => (HSi.out k hk).1)
            have Hnw : Hid (∀ k, v5.ownBlock = some k → w.heap.size ≤ k) := fun k hk => by
              rcases hm5 k hk with h | h
              · exact (HSi.out k h).1
              · have := hfx.size; omega
            have cg0 := two_cell0 hbx
            have cg1 := two_cell1 hbx
            clear ho5 hf5 hm5 hbx hox hfx
            go_wp2_with (at_builtin; refine wpList_append_run rfl (.tmp 44) (.tmp 46) 74 rfl rfl rfl hrun5 ?_)
            go_roundg (nm - (i + 1))
            case rel =>
              refine ⟨m, i + 1, ts ++ [p], rfl, by omega, hm, rfl, by go_num, Hro.out, by simp; omega, ?_, Hfo.out, Hnw.out⟩
              have := Hti.out
              rw [mgP wt Hex.out] at this
              rw [← this]
              simp
            case measure => rw [Hg.out]; omega
    · have hlast : ms.drop i = [] := List.drop_eq_nil_of_le (by rw [← Hnm.out]; omega)
      have hdrop := RdX.drop (RdX.keep Hc.out hf) (by rw [List.length_map, Hnc.out]) n hn
      obtain ⟨v5, w5, hrun5, ho5, hf5, hm5⟩ := app_x wr u5 _ _ _ Ho.out hdrop (by rw [List.length_drop, List.length_map, List.length_map, ← Hnc.out]; omega)
      have Hro : Hid (OwnL wt w5 v5 (mg wt cs ms)) := by
        have := Hst.out
        rw [hlast, mgN] at this
        show OwnX _ _ _
        rw [← this, List.map_append, List.map_drop]
        exact ho5
      have Hfo : Hid (Fr w w5 (fun _ => False)) := hf.newer hf5 (fun k hk => Hnew.out k hk)
      clear hlast hdrop ho5 hf5 hm5
      go_wp2_with (at_builtin; refine wpList_append_run rfl (.tmp 49) (.tmp 52) 74 rfl rfl rfl hrun5 ?_)
      all_goals (go_ret; exact ⟨v5, rfl, Hro.out, Hfo.out⟩)

end Go.Proofs.Ytclfbdfgmeliaaa
