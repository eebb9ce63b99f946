/-
  The walk of the law CodeFirst, under the condition that the program's functions answer as their contracts say.
-/
import Derived.Test.YtdbbngppdcpcgaaRows
import Derived.Test.YtdbbngppdcpcgaaKHelp
import Derived.Deep.CutRange
namespace Go.Proofs.Ytdbbngppdcpcgaa.codeFirst
open Go.ChangeShapes Go.WideShapes Go.ChangeAt Go.RowKit

set_option maxRecDepth 4000 in
set_option maxHeartbeats 1600000 in
theorem walkM (M : KC) (a0 : Option Addr) (len0 cap0 : Nat) (z0 : List Int) (w : World) (w0 : IsRow .u16 w a0 len0 cap0 z0) :
    Calls Try.prog 7 #[.slice a0 len0 cap0] w fun e w' => e = .returned (.bool true) ∧ Below w.heap.size w w' := by
  obtain ⟨xs, hxl, hxx, hrd, -⟩ := reads_isRow ku16 (by decide) w0
  have hxs : ∀ x ∈ xs, x < 65536 := fun x hx => by
    obtain ⟨j, hj⟩ := List.getElem?_of_mem hx
    have := hxx j
    rwa [List.getD_eq_getElem?_getD, hj] at this
  have Hrd : Hid (Reads .u16 w (.slice a0 len0 cap0) xs) := hrd
  have Hxs : Hid _ := hxs
  have Hxl : Hid _ := hxl
  clear w0 hrd hxs hxx hxl
  go_enter Try.func7, Try.ntmps7
  go_wp2_with fail
  refine (known_any M w).mono ?_
  rintro e w1 ⟨rfl, hf1⟩
  by_cases hbig : 60 < len0
  · have hd : decide ((60 : Int) < (len0 : Int)) = true := decide_eq_true (by omega)
    go_wp2
    all_goals (go_ret; exact ⟨rfl, hf1.below (Nat.le_refl _) (fun k h => h.elim)⟩)
  · have hd : decide ((60 : Int) < (len0 : Int)) = false := decide_eq_false (by omega)
    go_wp2_with fail
    refine (lawLens_any _ xs 0 1 w1 (Hrd.out.keep hf1) Hxs.out (by decide) (by decide) (by rw [Hxl.out]; omega)).mono ?_
    rw [lawLens_one]
    rintro e w2 ⟨sx, rfl, hrx, hf2, -⟩
    replace hf2 := hf1.none hf2
    have hBl := lawBase_len xs (by rw [Hxl.out]; omega)
    generalize lawBase xs = l at hrx hBl
    have hl60 : l.length ≤ 60 := by rw [hBl, Hxl.out]; omega
    obtain ⟨ax, cx, rfl, hcx⟩ := hrx.form
    rw [List.length_map] at hrx hcx ⊢
    obtain ⟨N, hN⟩ : ∃ N, N = l.length := ⟨_, rfl⟩
    rw [← hN] at hrx hcx hl60 ⊢
    have HN : Hid _ := hN
    have Hrx : Hid (ReadsZ w2 (.slice ax N cx) (l.map fun (n : Nat) => (n : Int))) := hrx
    clear hrx hf1 hN hBl hd
    go_wp2_with fail
    refine (M.codes _ _ _ Hrx.out (by rw [List.length_map, ← HN.out]; omega)).mono ?_
    rintro e w3 ⟨sc, rfl, hrc, hf3⟩
    have Hrx3 : Hid (ReadsZ w3 (.slice ax N cx) (l.map fun (n : Nat) => (n : Int))) := Hrx.out.keep hf3
    replace hf3 := hf2.none hf3
    obtain ⟨ac, cc, rfl, hcc, -⟩ := id hrc
    rw [length_row] at hcc ⊢
    clear hf2 Hrx
    go_wp2_with fail
    refine (M.right _ _ _ Hrx3.out (by rw [List.length_map, ← HN.out]; omega)).mono ?_
    rintro e w4 ⟨rfl, hf4⟩
    have Hrx4 : Hid (ReadsZ w4 (.slice ax N cx) (l.map fun (n : Nat) => (n : Int))) := Hrx3.out.keep hf4
    have hrc4 := hrc.keep hf4
    replace hf4 := hf3.none hf4
    clear hf3 Hrx3 hrc
    cases hR : rightB (l.map fun (n : Nat) => (n : Int)) with
    | false =>
      have hc0 : (codesZ (l.map fun (n : Nat) => (n : Int))).length = 0 := by unfold codesZ; rw [hR]; rfl
      rw [hc0] at hcc ⊢
      go_wp2
      all_goals (go_ret; exact ⟨rfl, hf4.below (Nat.le_refl _) (fun k h => h.elim)⟩)
    | true =>
      have hRL := (right_of_nats l).1 hR
      rw [codes_nats hR] at hrc4 hcc ⊢
      rw [fnRow_length, ← HN.out] at hcc ⊢
      rw [← HN.out] at hrc4
      have Hrc : Hid (Reads .i64 w4 (.slice ac N cc) (fnRow N (codeOf l))) := by rw [length_row, fnRow_length] at hrc4; exact hrc4
      have HR : Hid _ := hRL
      have hf5 : Fr w w4 (fun _ => False) := hf4
      clear hR hrc4 hRL hf4
      go_wp2
      go_loopg [5, 6, 7, 8] N (fun g A B C I wr => ∃ (s c : Nat) (fi la : Int), g = N - s ∧ s ≤ N ∧ I = .int .i64 (s : Int) ∧ A = .int .i64 fi ∧ B = .int .i64 la ∧ C = .int .i64 (c : Int) ∧ c = someOf (l.take s) ∧ ((c = 0 ∧ fi = -1 ∧ la = -1 ∧ ∀ t, t < s → ln l t = 0) ∨ (0 < c ∧ ∃ f g : Nat, fi = (f : Int) ∧ la = (g : Int) ∧ Fst l s f ∧ Lst l s g)) ∧ Fr w4 wr (fun _ => False))
      case atStart => exact ⟨0, 0, -1, -1, rfl, by omega, rfl, rfl, rfl, rfl, by simp [someOf], .inl ⟨rfl, rfl, rfl, fun t ht => by omega⟩, Fr.refl _ _⟩
      case round =>
        obtain ⟨s, c, fi, la, hg, hs, rfl, rfl, rfl, rfl, hc, hst, hfr⟩ := hrel
        have Hg : Hid _ := hg
        have Hc : Hid _ := hc
        have Hst : Hid _ := hst
        clear hg hc hst
        have hcb : c ≤ 60 := by rw [Hc.out]; unfold someOf; exact Nat.le_trans List.countP_le_length (by rw [List.length_take]; omega)
        by_cases hlt : s < N
        · obtain ⟨bx, ox, rfl, kx⟩ := cell_ln Hrx4.out HN.out s hlt
          obtain ⟨bc, oc, rfl, kc⟩ := cell_code Hrc.out s hlt
          have cxs := kx _ hfr
          have ccs := kc _ hfr
          have hstep := some_step l s (by rw [← HN.out]; exact hlt)
          rw [← Hc.out] at hstep
          obtain ⟨y, hy⟩ : ∃ y, y = ln l s := ⟨_, rfl⟩
          rw [← hy] at cxs hstep kx
          have Kx : Hid _ := kx
          have Hy : Hid _ := hy
          have hs1 : (s : Int) < (N : Int) := by omega
          clear kx kc hy
          by_cases hy0 : y = 0
          · have Hc2 : Hid (c = someOf (l.take (s + 1))) := by show _ = _; rw [hstep, if_neg (by omega), Nat.add_zero]
            have hcz : codeOf l s = 0 := by unfold codeOf; rw [if_pos (by rw [← Hy.out]; exact hy0)]
            rw [hcz] at ccs
            have Hst2 : Hid ((c = 0 ∧ fi = -1 ∧ la = -1 ∧ ∀ t, t < s + 1 → ln l t = 0) ∨ (0 < c ∧ ∃ f g : Nat, fi = (f : Int) ∧ la = (g : Int) ∧ Fst l (s + 1) f ∧ Lst l (s + 1) g)) := by
              rcases Hst.out with ⟨h1, h2, h3, h4⟩ | ⟨h1, f, g, h2, h3, h4, h5⟩
              · refine .inl ⟨h1, h2, h3, fun t ht => ?_⟩
                by_cases e : t = s
                · subst e; rw [← Hy.out]; exact hy0
                · exact h4 t (by omega)
              · exact .inr ⟨h1, f, g, h2, h3, h4.skip (.inl (by rw [← Hy.out]; exact hy0)), h5.skip (.inl (by rw [← Hy.out]; exact hy0))⟩
            clear hstep hcz
            subst hy0
            go_wp2_with fail
            go_roundg (N - (s + 1))
            case rel => exact ⟨s + 1, c, fi, la, rfl, by omega, by go_num, rfl, rfl, rfl, Hc2.out, Hst2.out, hfr⟩
            case measure => rw [Hg.out]; omega
          · have Hc2 : Hid (c + 1 = someOf (l.take (s + 1))) := by show _ = _; rw [hstep, if_pos (by omega)]
            have hy1 : ((y : Int) == 0) = false := by rw [beq_eq_false_iff_ne]; omega
            have hcw : IntKind.i64.wrap ((c : Int) + 1) = ((c + 1 : Nat) : Int) := by rw [IntWalk.i64_in _ (by omega)]; omega
            have hyp : 0 < ln l s := by rw [← Hy.out]; omega
            have Hyp : Hid _ := hyp
            clear hstep hyp ccs
            rcases Hst.out with ⟨h1, h2, h3, h4⟩ | ⟨h1, f, g, h2, h3, h4, h5⟩
            · have Hnew1 : Hid (Fst l (s + 1) s) := Fst.here Hyp.out (fun t ht h0 => by have := h4 t ht; omega)
              have Hnew2 : Hid (Lst l (s + 1) s) := Lst.here Hyp.out (fun t ht h0 => by have := h4 t ht; omega)
              subst h2 h3
              clear h4
              go_wp2_with fail
              refine wp_region_all (fun _ => False) [.c ?_, .c ?_, .c ?_, .c ?_, .c ?_, .c ?_, .c ?_, .c ?_, .c ?_, .c ?_, .c ?_, .c ?_, .c ?_] (by kernel_rfl) (by kernel_rfl) rfl ?last ?walk
              case last => repeat (first | exact Lasts.nil | refine Lasts.c ?_)
              case walk =>
                repeat (first | (refine wpAll_take rfl rfl (fun x hx => ?_) ?_; (focus (go_simp; with_reducible rfl)); simp only [Act.put, List.setIfInBounds_toArray, List.set_cons_zero, List.set_cons_succ]) | (refine wpAll_pass rfl rfl ?_ ?_; (focus rfl); simp only [Act.put, List.setIfInBounds_toArray, List.set_cons_zero, List.set_cons_succ]))
                refine wpAll_nil (fun wx hfx _ => ?_)
                replace hfx : Fr w4 wx (fun _ => False) := hfr.none ((Fr.refl wr (fun _ => False)).drew.none hfx)
                go_wp2_with fail
                refine wp_region_all (fun _ => False) [.c ?_, .c ?_, .c ?_, .c ?_, .c ?_, .c ?_, .c ?_, .c ?_, .c ?_, .c ?_, .c ?_, .c ?_, .c ?_] (by kernel_rfl) (by kernel_rfl) rfl ?last ?walk
                case last => repeat (first | exact Lasts.nil | refine Lasts.c ?_)
                case walk =>
                  repeat (first | (refine wpAll_take rfl rfl (fun x hx => ?_) ?_; (focus (go_simp; with_reducible rfl)); simp only [Act.put, List.setIfInBounds_toArray, List.set_cons_zero, List.set_cons_succ]) | (refine wpAll_pass rfl rfl ?_ ?_; (focus rfl); simp only [Act.put, List.setIfInBounds_toArray, List.set_cons_zero, List.set_cons_succ]))
                  refine wpAll_nil (fun wy hfy _ => ?_)
                  replace hfy : Fr w4 wy (fun _ => False) := hfx.none ((Fr.refl wx (fun _ => False)).drew.none hfy)
                  go_wp2_with fail
                  go_roundg (N - (s + 1))
                  case rel => exact ⟨s + 1, c + 1, _, _, rfl, by omega, by go_num, rfl, rfl, by first | rfl | (rw [← hcw]; done) | (rw [h1]; rfl), Hc2.out, .inr ⟨by omega, s, s, rfl, rfl, Hnew1.out, Hnew2.out⟩, hfy⟩
                  case measure => rw [Hg.out]; omega
            · have Hf : Hid (Fst l s f) := h4
              have Hgg : Hid (Lst l s g) := h5
              have hfs := h4.lt
              have hgs := h5.lt
              obtain ⟨b1, o1, e1, k1⟩ := cell_ln Hrx4.out HN.out f (by omega)
              obtain ⟨b2, o2, e2, k2⟩ := cell_ln Hrx4.out HN.out g (by omega)
              simp only [Option.some.injEq, Addr.mk.injEq, and_true] at e1 e2
              obtain ⟨rfl, rfl⟩ := e1
              obtain ⟨rfl, rfl⟩ := e2
              obtain ⟨yf, hyf⟩ : ∃ y, y = ln l f := ⟨_, rfl⟩
              obtain ⟨yg, hyg⟩ : ∃ y, y = ln l g := ⟨_, rfl⟩
              rw [← hyf] at k1
              rw [← hyg] at k2
              have Kf : Hid _ := k1
              have Kg : Hid _ := k2
              have Hyf : Hid _ := hyf
              have Hyg : Hid _ := hyg
              have hd1 : decide ((f : Int) < 0) = false := decide_eq_false (by omega)
              have hd2 : decide ((g : Int) < 0) = false := decide_eq_false (by omega)
              have hfN : (f : Int) < (N : Int) := by omega
              have hgN : (g : Int) < (N : Int) := by omega
              subst h2 h3
              clear h4 h5 k1 k2 hyf hyg
              by_cases hA : y < yf
              · have hdA : decide ((y : Int) < (yf : Int)) = true := decide_eq_true (by omega)
                have HnA : Hid (Fst l (s + 1) s) := Fst.here Hyp.out (fun t ht h0 => by have := Hf.out.min t ht h0; rw [← Hyf.out] at this; rw [← Hy.out]; omega)
                go_wp2_with fail
                have px : ∀ z, Fr wr.drew z (fun _ => False) → z.cell? ⟨bx, ox + s, none⟩ = some (.int .i64 (y : Int)) := fun z hz => Kx.out z (hfr.none ((Fr.refl wr _).drew.none hz))
                have pf : ∀ z, Fr wr.drew z (fun _ => False) → z.cell? ⟨bx, ox + f, none⟩ = some (.int .i64 (yf : Int)) := fun z hz => Kf.out z (hfr.none ((Fr.refl wr _).drew.none hz))
                refine wp_region_all (fun _ => False) [.c ?_, .c ?_, .c ?_, .c ?_, .c ?_, .c ?_, .c ?_, .c ?_, .c ?_, .c ?_, .c ?_, .c ?_, .c ?_] (by kernel_rfl) (by kernel_rfl) rfl ?last ?walk
                case last => repeat (first | exact Lasts.nil | refine Lasts.c ?_)
                case walk =>
                  repeat (first | (refine wpAll_take rfl rfl (fun x hx => ?_) ?_; (focus (go_simp; with_reducible rfl)); simp only [Act.put, List.setIfInBounds_toArray, List.set_cons_zero, List.set_cons_succ]) | (refine wpAll_pass rfl rfl ?_ ?_; (focus rfl); simp only [Act.put, List.setIfInBounds_toArray, List.set_cons_zero, List.set_cons_succ]))
                  refine wpAll_nil (fun wx hfx _ => ?_)
                  replace hfx : Fr w4 wx (fun _ => False) := hfr.none ((Fr.refl wr (fun _ => False)).drew.none hfx)
                  clear px pf cxs
                  by_cases hB : yg ≤ y
                  · have hdB : decide ((yg : Int) ≤ (y : Int)) = true := decide_eq_true (by omega)
                    have HnB : Hid (Lst l (s + 1) s) := (Lst.here Hyp.out (fun t ht h0 => by have := Hgg.out.max t ht h0; rw [← Hyg.out] at this; rw [← Hy.out]; omega))
                    go_wp2_with fail
                    have qx : ∀ z, Fr wx.drew z (fun _ => False) → z.cell? ⟨bx, ox + s, none⟩ = some (.int .i64 (y : Int)) := fun z hz => Kx.out z (hfx.none ((Fr.refl wx _).drew.none hz))
                    have qg : ∀ z, Fr wx.drew z (fun _ => False) → z.cell? ⟨bx, ox + g, none⟩ = some (.int .i64 (yg : Int)) := fun z hz => Kg.out z (hfx.none ((Fr.refl wx _).drew.none hz))
                    refine wp_region_all (fun _ => False) [.c ?_, .c ?_, .c ?_, .c ?_, .c ?_, .c ?_, .c ?_, .c ?_, .c ?_, .c ?_, .c ?_, .c ?_, .c ?_] (by kernel_rfl) (by kernel_rfl) rfl ?last ?walk
                    case last => repeat (first | exact Lasts.nil | refine Lasts.c ?_)
                    case walk =>
                      repeat (first | (refine wpAll_take rfl rfl (fun x hx => ?_) ?_; (focus (go_simp; with_reducible rfl)); simp only [Act.put, List.setIfInBounds_toArray, List.set_cons_zero, List.set_cons_succ]) | (refine wpAll_pass rfl rfl ?_ ?_; (focus rfl); simp only [Act.put, List.setIfInBounds_toArray, List.set_cons_zero, List.set_cons_succ]))
                      refine wpAll_nil (fun wy hfy _ => ?_)
                      replace hfy : Fr w4 wy (fun _ => False) := hfx.none ((Fr.refl wx (fun _ => False)).drew.none hfy)
                      clear qx qg
                      go_wp2_with fail
                      go_roundg (N - (s + 1))
                      case rel => exact ⟨s + 1, c + 1, _, _, rfl, by omega, by go_num, rfl, rfl, by first | rfl | (rw [← hcw]; done) | (rw [h1]; rfl), Hc2.out, .inr ⟨by omega, s, s, rfl, rfl, HnA.out, HnB.out⟩, hfy⟩
                      case measure => rw [Hg.out]; omega
                  · have hdB : decide ((yg : Int) ≤ (y : Int)) = false := decide_eq_false (by omega)
                    have HnB : Hid (Lst l (s + 1) g) := (Hgg.out.skip (.inr (by rw [← Hyg.out, ← Hy.out]; omega)))
                    go_wp2_with fail
                    have qx : ∀ z, Fr wx.drew z (fun _ => False) → z.cell? ⟨bx, ox + s, none⟩ = some (.int .i64 (y : Int)) := fun z hz => Kx.out z (hfx.none ((Fr.refl wx _).drew.none hz))
                    have qg : ∀ z, Fr wx.drew z (fun _ => False) → z.cell? ⟨bx, ox + g, none⟩ = some (.int .i64 (yg : Int)) := fun z hz => Kg.out z (hfx.none ((Fr.refl wx _).drew.none hz))
                    refine wp_region_all (fun _ => False) [.c ?_, .c ?_, .c ?_, .c ?_, .c ?_, .c ?_, .c ?_, .c ?_, .c ?_, .c ?_, .c ?_, .c ?_, .c ?_] (by kernel_rfl) (by kernel_rfl) rfl ?last ?walk
                    case last => repeat (first | exact Lasts.nil | refine Lasts.c ?_)
                    case walk =>
                      repeat (first | (refine wpAll_take rfl rfl (fun x hx => ?_) ?_; (focus (go_simp; with_reducible rfl)); simp only [Act.put, List.setIfInBounds_toArray, List.set_cons_zero, List.set_cons_succ]) | (refine wpAll_pass rfl rfl ?_ ?_; (focus rfl); simp only [Act.put, List.setIfInBounds_toArray, List.set_cons_zero, List.set_cons_succ]))
                      refine wpAll_nil (fun wy hfy _ => ?_)
                      replace hfy : Fr w4 wy (fun _ => False) := hfx.none ((Fr.refl wx (fun _ => False)).drew.none hfy)
                      clear qx qg
                      go_wp2_with fail
                      go_roundg (N - (s + 1))
                      case rel => exact ⟨s + 1, c + 1, _, _, rfl, by omega, by go_num, rfl, rfl, by first | rfl | (rw [← hcw]; done) | (rw [h1]; rfl), Hc2.out, .inr ⟨by omega, s, g, rfl, rfl, HnA.out, HnB.out⟩, hfy⟩
                      case measure => rw [Hg.out]; omega
              · have hdA : decide ((y : Int) < (yf : Int)) = false := decide_eq_false (by omega)
                have HnA : Hid (Fst l (s + 1) f) := Hf.out.skip (.inr (by rw [← Hyf.out, ← Hy.out]; omega))
                go_wp2_with fail
                have px : ∀ z, Fr wr.drew z (fun _ => False) → z.cell? ⟨bx, ox + s, none⟩ = some (.int .i64 (y : Int)) := fun z hz => Kx.out z (hfr.none ((Fr.refl wr _).drew.none hz))
                have pf : ∀ z, Fr wr.drew z (fun _ => False) → z.cell? ⟨bx, ox + f, none⟩ = some (.int .i64 (yf : Int)) := fun z hz => Kf.out z (hfr.none ((Fr.refl wr _).drew.none hz))
                refine wp_region_all (fun _ => False) [.c ?_, .c ?_, .c ?_, .c ?_, .c ?_, .c ?_, .c ?_, .c ?_, .c ?_, .c ?_, .c ?_, .c ?_, .c ?_] (by kernel_rfl) (by kernel_rfl) rfl ?last ?walk
                case last => repeat (first | exact Lasts.nil | refine Lasts.c ?_)
                case walk =>
                  repeat (first | (refine wpAll_take rfl rfl (fun x hx => ?_) ?_; (focus (go_simp; with_reducible rfl)); simp only [Act.put, List.setIfInBounds_toArray, List.set_cons_zero, List.set_cons_succ]) | (refine wpAll_pass rfl rfl ?_ ?_; (focus rfl); simp only [Act.put, List.setIfInBounds_toArray, List.set_cons_zero, List.set_cons_succ]))
                  refine wpAll_nil (fun wx hfx _ => ?_)
                  replace hfx : Fr w4 wx (fun _ => False) := hfr.none ((Fr.refl wr (fun _ => False)).drew.none hfx)
                  clear px pf cxs
                  by_cases hB : yg ≤ y
                  · have hdB : decide ((yg : Int) ≤ (y : Int)) = true := decide_eq_true (by omega)
                    have HnB : Hid (Lst l (s + 1) s) := (Lst.here Hyp.out (fun t ht h0 => by have := Hgg.out.max t ht h0; rw [← Hyg.out] at this; rw [← Hy.out]; omega))
                    go_wp2_with fail
                    have qx : ∀ z, Fr wx.drew z (fun _ => False) → z.cell? ⟨bx, ox + s, none⟩ = some (.int .i64 (y : Int)) := fun z hz => Kx.out z (hfx.none ((Fr.refl wx _).drew.none hz))
                    have qg : ∀ z, Fr wx.drew z (fun _ => False) → z.cell? ⟨bx, ox + g, none⟩ = some (.int .i64 (yg : Int)) := fun z hz => Kg.out z (hfx.none ((Fr.refl wx _).drew.none hz))
                    refine wp_region_all (fun _ => False) [.c ?_, .c ?_, .c ?_, .c ?_, .c ?_, .c ?_, .c ?_, .c ?_, .c ?_, .c ?_, .c ?_, .c ?_, .c ?_] (by kernel_rfl) (by kernel_rfl) rfl ?last ?walk
                    case last => repeat (first | exact Lasts.nil | refine Lasts.c ?_)
                    case walk =>
                      repeat (first | (refine wpAll_take rfl rfl (fun x hx => ?_) ?_; (focus (go_simp; with_reducible rfl)); simp only [Act.put, List.setIfInBounds_toArray, List.set_cons_zero, List.set_cons_succ]) | (refine wpAll_pass rfl rfl ?_ ?_; (focus rfl); simp only [Act.put, List.setIfInBounds_toArray, List.set_cons_zero, List.set_cons_succ]))
                      refine wpAll_nil (fun wy hfy _ => ?_)
                      replace hfy : Fr w4 wy (fun _ => False) := hfx.none ((Fr.refl wx (fun _ => False)).drew.none hfy)
                      clear qx qg
                      go_wp2_with fail
                      go_roundg (N - (s + 1))
                      case rel => exact ⟨s + 1, c + 1, _, _, rfl, by omega, by go_num, rfl, rfl, by first | rfl | (rw [← hcw]; done) | (rw [h1]; rfl), Hc2.out, .inr ⟨by omega, f, s, rfl, rfl, HnA.out, HnB.out⟩, hfy⟩
                      case measure => rw [Hg.out]; omega
                  · have hdB : decide ((yg : Int) ≤ (y : Int)) = false := decide_eq_false (by omega)
                    have HnB : Hid (Lst l (s + 1) g) := (Hgg.out.skip (.inr (by rw [← Hyg.out, ← Hy.out]; omega)))
                    go_wp2_with fail
                    have qx : ∀ z, Fr wx.drew z (fun _ => False) → z.cell? ⟨bx, ox + s, none⟩ = some (.int .i64 (y : Int)) := fun z hz => Kx.out z (hfx.none ((Fr.refl wx _).drew.none hz))
                    have qg : ∀ z, Fr wx.drew z (fun _ => False) → z.cell? ⟨bx, ox + g, none⟩ = some (.int .i64 (yg : Int)) := fun z hz => Kg.out z (hfx.none ((Fr.refl wx _).drew.none hz))
                    refine wp_region_all (fun _ => False) [.c ?_, .c ?_, .c ?_, .c ?_, .c ?_, .c ?_, .c ?_, .c ?_, .c ?_, .c ?_, .c ?_, .c ?_, .c ?_] (by kernel_rfl) (by kernel_rfl) rfl ?last ?walk
                    case last => repeat (first | exact Lasts.nil | refine Lasts.c ?_)
                    case walk =>
                      repeat (first | (refine wpAll_take rfl rfl (fun x hx => ?_) ?_; (focus (go_simp; with_reducible rfl)); simp only [Act.put, List.setIfInBounds_toArray, List.set_cons_zero, List.set_cons_succ]) | (refine wpAll_pass rfl rfl ?_ ?_; (focus rfl); simp only [Act.put, List.setIfInBounds_toArray, List.set_cons_zero, List.set_cons_succ]))
                      refine wpAll_nil (fun wy hfy _ => ?_)
                      replace hfy : Fr w4 wy (fun _ => False) := hfx.none ((Fr.refl wx (fun _ => False)).drew.none hfy)
                      clear qx qg
                      go_wp2_with fail
                      go_roundg (N - (s + 1))
                      case rel => exact ⟨s + 1, c + 1, _, _, rfl, by omega, by go_num, rfl, rfl, by first | rfl | (rw [← hcw]; done) | (rw [h1]; rfl), Hc2.out, .inr ⟨by omega, f, g, rfl, rfl, HnA.out, HnB.out⟩, hfy⟩
                      case measure => rw [Hg.out]; omega
        · have hse : s = N := by omega
          have hs1 : ¬ (s : Int) < (N : Int) := by omega
          have hcs : c = someOf l := by rw [Hc.out, List.take_of_length_le (by rw [← HN.out]; omega)]
          have hc0 : 0 < c := by rw [hcs]; exact right_some HR.out
          rcases Hst.out with ⟨h1, -⟩ | ⟨h1, f, g, h2, h3, h4, h5⟩
          · omega
          · have hcf : codeOf l f = 0 := code_first h4.pos (fun t ht => h4.le t (by have := ln_lt ht; rw [← HN.out] at this; omega) ht)
            have hcg : c ≠ 1 → codeOf l g + 1 = 2 ^ ln l g := fun hne => by
              have hk : kraftOf l = 2 ^ 15 := by
                rcases HR.out.how with ⟨h6, -⟩ | h6
                · omega
                · exact h6
              exact code_last HR.out.ln hk h5.pos (fun t ht hne => h5.le t (by have := ln_lt ht; rw [← HN.out] at this; omega) ht hne)
            obtain ⟨b1, o1, rfl, k1⟩ := cell_code Hrc.out f (by have := h4.lt; omega)
            obtain ⟨b2, o2, e2, k2⟩ := cell_code Hrc.out g (by have := h5.lt; omega)
            simp only [Option.some.injEq, Addr.mk.injEq, and_true] at e2
            obtain ⟨rfl, rfl⟩ := e2
            obtain ⟨b3, o3, rfl, k3⟩ := cell_ln Hrx4.out HN.out g (by have := h5.lt; omega)
            rw [hcf] at k1
            obtain ⟨y, hy⟩ : ∃ y, y = ln l g := ⟨_, rfl⟩
            obtain ⟨z, hz⟩ : ∃ z, z = codeOf l g := ⟨_, rfl⟩
            rw [← hy] at k3 hcg
            rw [← hz] at k2 hcg
            have hy15 : y ≤ 15 := by rw [hy]; exact HR.out.ln g
            have hfN : (f : Int) < (N : Int) := by have := h4.lt; omega
            have hgN : (g : Int) < (N : Int) := by have := h5.lt; omega
            have hcp : decide ((0 : Int) < (c : Int)) = true := decide_eq_true (by omega)
            have hcp2 : (0 : Int) < (c : Int) := by omega
            have p1 : ∀ z, Fr wr.drew z (fun _ => False) → z.cell? ⟨b1, o1 + f, none⟩ = some (.int .i64 ((0 : Nat) : Int)) := fun z hz => k1 z (hfr.none ((Fr.refl wr _).drew.none hz))
            have p2 : ∀ x, Fr wr.drew x (fun _ => False) → x.cell? ⟨b1, o1 + g, none⟩ = some (.int .i64 (z : Int)) := fun x hz => k2 x (hfr.none ((Fr.refl wr _).drew.none hz))
            have p3 : ∀ z, Fr wr.drew z (fun _ => False) → z.cell? ⟨b3, o3 + g, none⟩ = some (.int .i64 (y : Int)) := fun z hz => k3 z (hfr.none ((Fr.refl wr _).drew.none hz))
            subst h2 h3
            clear k1 k2 k3 h4 h5 hcf hy hz hcs
            by_cases hc1 : c = 1
            · subst hc1
              go_wp2
              refine wp_region_all (fun _ => False) [.c ?_, .c ?_, .c ?_, .c ?_, .c ?_, .c ?_, .c ?_, .c ?_, .c ?_, .c ?_, .c ?_, .c ?_, .c ?_, .c ?_, .c ?_, .c ?_, .c ?_, .c ?_, .c ?_, .c ?_, .c ?_, .c ?_, .c ?_, .c ?_, .c ?_, .c ?_, .c ?_] (by kernel_rfl) (by kernel_rfl) rfl ?last ?walk
              case last => repeat (first | exact Lasts.nil | refine Lasts.c ?_)
              case walk =>
                repeat (first | (refine wpAll_take rfl rfl (fun x hx => ?_) ?_; (focus (go_simp; with_reducible rfl)); simp only [Act.put, List.setIfInBounds_toArray, List.set_cons_zero, List.set_cons_succ]) | (refine wpAll_pass rfl rfl ?_ ?_; (focus rfl); simp only [Act.put, List.setIfInBounds_toArray, List.set_cons_zero, List.set_cons_succ]))
                refine wpAll_nil (fun wx hfx _ => ?_)
                replace hfx : Fr w4 wx (fun _ => False) := hfr.none ((Fr.refl wr (fun _ => False)).drew.none hfx)
                go_wp2
                go_ret
                exact ⟨rfl, (hf5.none hfx).below (Nat.le_refl _) (fun k h => h.elim)⟩
            · have hc2 : ((c : Int) == 1) = false := by rw [beq_eq_false_iff_ne]; omega
              have hzz := hcg hc1
              have hP : 2 ^ y ≤ 32768 := Nat.le_trans (Nat.pow_le_pow_right (by omega) hy15) (by decide)
              obtain ⟨P, hPe⟩ : ∃ P, P = 2 ^ y := ⟨_, rfl⟩
              have e1 : (2 : Int) ^ y = (P : Int) := by rw [hPe]; simp
              rw [← hPe] at hzz hP
              have hzP : (P : Int) - 1 = (z : Int) := by omega
              have hw1 : IntKind.i64.wrap ((P : Int) - 1) = (z : Int) := by rw [hzP]; exact IntWalk.i64_in _ (by omega)
              have hwz : IntKind.i64.wrap (z : Int) = (z : Int) := IntWalk.i64_in _ (by omega)
              have hy64 : (y : Int) < 64 := by omega
              have hP63 : -(9223372036854775808 : Int) ≤ (P : Int) ∧ (P : Int) < 9223372036854775808 := by omega
              have hpw3 : IntKind.i64.wrap ((2 : Int) ^ y) = (P : Int) := by rw [e1]; exact IntWalk.i64_in _ (by omega)
              clear hcg hPe hzz e1 hP63
              go_wp2
              refine wp_region_all (fun _ => False) [.c ?_, .c ?_, .c ?_, .c ?_, .c ?_, .c ?_, .c ?_, .c ?_, .c ?_, .c ?_, .c ?_, .c ?_, .c ?_, .c ?_, .c ?_, .c ?_, .c ?_, .c ?_, .c ?_, .c ?_, .c ?_, .c ?_, .c ?_, .c ?_, .c ?_, .c ?_, .c ?_] (by kernel_rfl) (by kernel_rfl) rfl ?last ?walk
              case last => repeat (first | exact Lasts.nil | refine Lasts.c ?_)
              case walk =>
                repeat (first | (refine wpAll_take rfl rfl (fun x hx => ?_) ?_; (focus (go_simp; with_reducible rfl)); simp only [Act.put, List.setIfInBounds_toArray, List.set_cons_zero, List.set_cons_succ]) | (refine wpAll_pass rfl rfl ?_ ?_; (focus rfl); simp only [Act.put, List.setIfInBounds_toArray, List.set_cons_zero, List.set_cons_succ]))
                refine wpAll_nil (fun wx hfx _ => ?_)
                replace hfx : Fr w4 wx (fun _ => False) := hfr.none ((Fr.refl wr (fun _ => False)).drew.none hfx)
                go_wp2
                go_ret
                exact ⟨rfl, (hf5.none hfx).below (Nat.le_refl _) (fun k h => h.elim)⟩

end Go.Proofs.Ytdbbngppdcpcgaa.codeFirst
