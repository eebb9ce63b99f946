/-
  The walk of the law CodeFree, under the condition that the program's functions answer as their contracts say.
-/
import Derived.Test.YtdbbngppdcpcgaaRows
import Derived.Test.YtdbbngppdcpcgaaKHelp
import Derived.Deep.CutRange
namespace Go.Proofs.Ytdbbngppdcpcgaa.codeFree
open Go.ChangeShapes Go.WideShapes Go.ChangeAt Go.RowKit

set_option maxRecDepth 4000 in
set_option maxHeartbeats 1600000 in
theorem walkM (M : KC) (a0 : Option Addr) (len0 cap0 : Nat) (z0 : List Int) (a1 : Int) (a2 : Int) (w : World) (w0 : IsRow .u16 w a0 len0 cap0 z0) (w1 : (Lit.int .u8 a1).wf = true) (w2 : (Lit.int .u8 a2).wf = true) :
    Calls Try.prog 5 #[.slice a0 len0 cap0, .int .u8 a1, .int .u8 a2] w fun e w' => e = .returned (.bool true) ∧ Below w.heap.size w w' := by
  obtain ⟨xs, hxl, hxx, hrd, -⟩ := reads_isRow ku16 (by decide) w0
  have hxs : ∀ x ∈ xs, x < 65536 := fun x hx => by
    obtain ⟨j, hj⟩ := List.getElem?_of_mem hx
    have := hxx j
    rwa [List.getD_eq_getElem?_getD, hj] at this
  obtain ⟨hb1, hb1'⟩ := bounds_u8 w1
  obtain ⟨hb2, hb2'⟩ := bounds_u8 w2
  obtain ⟨ii, rfl⟩ := Int.eq_ofNat_of_zero_le hb1
  obtain ⟨jj, rfl⟩ := Int.eq_ofNat_of_zero_le hb2
  have Hrd : Hid (Reads .u16 w (.slice a0 len0 cap0) xs) := hrd
  have Hxs : Hid _ := hxs
  have Hxl : Hid _ := hxl
  clear w0 w1 w2 hrd hxs hxx hxl
  go_enter Try.func5, Try.ntmps5
  go_wp2_with fail
  refine (known_any M w).mono ?_
  rintro e w1 ⟨rfl, hf1⟩
  by_cases hbig : 60 < len0
  · have hd : decide ((60 : Int) < (len0 : Int)) = true := decide_eq_true (by omega)
    go_wp2
    all_goals (go_ret; exact ⟨rfl, hf1.below (Nat.le_refl _) (fun k h => h.elim)⟩)
  · by_cases hz : len0 = 0
    · subst hz
      go_wp2
      all_goals (go_ret; exact ⟨rfl, hf1.below (Nat.le_refl _) (fun k h => h.elim)⟩)
    · have hd : decide ((60 : Int) < (len0 : Int)) = false := decide_eq_false (by omega)
      have hz1 : ((len0 : Int) == 0) = false := by rw [beq_eq_false_iff_ne]; omega
      go_wp2_with fail
      refine (lawLens_any _ xs 0 1 w1 (Hrd.out.keep hf1) Hxs.out (by decide) (by decide) (by rw [Hxl.out]; omega)).mono ?_
      rw [lawLens_one]
      rintro e w2 ⟨sx, rfl, hrx, hf2, -⟩
      replace hf2 := hf1.none hf2
      have hBl := lawBase_len xs (by rw [Hxl.out]; omega)
      generalize lawBase xs = l at hrx hBl
      have hl60 : l.length ≤ 60 := by rw [hBl, Hxl.out]; omega
      have hl1 : 0 < l.length := by rw [hBl, Hxl.out]; omega
      obtain ⟨ax, cx, rfl, hcx⟩ := hrx.form
      rw [List.length_map] at hrx hcx ⊢
      obtain ⟨N, hN⟩ : ∃ N, N = l.length := ⟨_, rfl⟩
      rw [← hN] at hrx hcx hl60 hl1 ⊢
      have HN : Hid _ := hN
      have Hrx : Hid (ReadsZ w2 (.slice ax N cx) (l.map fun (n : Nat) => (n : Int))) := hrx
      clear hrx hf1 hN hBl hd
      go_wp2_with fail
      refine (M.right _ _ _ Hrx.out (by rw [List.length_map, ← HN.out]; omega)).mono ?_
      rintro e w3 ⟨rfl, hf3⟩
      have Hrx3 : Hid (ReadsZ w3 (.slice ax N cx) (l.map fun (n : Nat) => (n : Int))) := Hrx.out.keep hf3
      replace hf3 := hf2.none hf3
      clear hf2 Hrx
      cases hR : rightB (l.map fun (n : Nat) => (n : Int)) with
      | false =>
        go_wp2_with fail
        refine (refRight_any _ _ _ Hrx3.out).mono ?_
        rw [hR]
        rintro e w4 ⟨rfl, hf4⟩
        replace hf4 := hf3.none hf4
        go_wp2
        all_goals (go_ret; exact ⟨rfl, hf4.below (Nat.le_refl _) (fun k h => h.elim)⟩)
      | true =>
        have hRL := (right_of_nats l).1 hR
        go_wp2_with fail
        refine (M.codes _ _ _ Hrx3.out (by rw [List.length_map, ← HN.out]; omega)).mono ?_
        rintro e w4 ⟨sc, rfl, hrc, hf4⟩
        have Hrx4 : Hid (ReadsZ w4 (.slice ax N cx) (l.map fun (n : Nat) => (n : Int))) := Hrx3.out.keep hf4
        rw [codes_nats hR, ← HN.out] at hrc
        replace hf4 := hf3.none hf4
        obtain ⟨ac, cc, rfl, hcc, -⟩ := id hrc
        rw [length_row, fnRow_length] at hcc hrc ⊢
        have Hrc : Hid (Reads .i64 w4 (.slice ac N cc) (fnRow N (codeOf l))) := hrc
        have HR : Hid _ := hRL
        clear hf3 Hrx3 hR hrc hRL
        obtain ⟨A, hA⟩ : ∃ r, r = ii % N := ⟨_, rfl⟩
        obtain ⟨B, hB⟩ : ∃ r, r = jj % N := ⟨_, rfl⟩
        have hA2 : A < N := by rw [hA]; exact Nat.mod_lt _ hl1
        have hB2 : B < N := by rw [hB]; exact Nat.mod_lt _ hl1
        have tA : (ii : Int).tmod (N : Int) = (A : Int) := by rw [Int.tmod_eq_emod_of_nonneg (by omega), hA]; rfl
        have tB : (jj : Int).tmod (N : Int) = (B : Int) := by rw [Int.tmod_eq_emod_of_nonneg (by omega), hB]; rfl
        have wA : IntKind.i64.wrap (ii : Int) = (ii : Int) := IntWalk.i64_in _ (by omega)
        have wB : IntKind.i64.wrap (jj : Int) = (jj : Int) := IntWalk.i64_in _ (by omega)
        have wA1 : IntKind.i64.wrap (A : Int) = (A : Int) := IntWalk.i64_in _ (by omega)
        have wB1 : IntKind.i64.wrap (B : Int) = (B : Int) := IntWalk.i64_in _ (by omega)
        have hN1 : ((N : Int) == 0) = false := by rw [beq_eq_false_iff_ne]; omega
        have hN0 : ¬ N = 0 := by omega
        clear hA hB
        go_wp2 -- MARK
        refine wp_region_all (fun _ => False) [.c ?_, .c ?_, .c ?_, .c ?_, .c ?_, .c ?_, .c ?_, .c ?_, .c ?_, .c ?_, .c ?_, .c ?_] (by kernel_rfl) (by kernel_rfl) rfl ?last ?walk
        case last => repeat (first | exact Lasts.nil | refine Lasts.c ?_)
        case walk =>
          repeat (first | (refine wpAll_take rfl rfl (fun x hx => ?_) ?_; (focus (go_simp; with_reducible rfl)); simp only [Act.put, List.setIfInBounds_toArray, List.set_cons_zero, List.set_cons_succ]) | (refine wpAll_pass rfl rfl ?_ ?_; (focus rfl); simp only [Act.put, List.setIfInBounds_toArray, List.set_cons_zero, List.set_cons_succ]))
          refine wpAll_nil (fun wx hfx _ => ?_)
          replace hfx : Fr w4 wx (fun _ => False) := (Fr.refl w4 (fun _ => False)).drew.none hfx
          have Hrx5 : Hid (ReadsZ wx (.slice ax N cx) (l.map fun (n : Nat) => (n : Int))) := Hrx4.out.keep hfx
          have Hrc5 : Hid (Reads .i64 wx (.slice ac N cc) (fnRow N (codeOf l))) := Hrc.out.keep hfx
          replace hfx := hf4.none hfx
          clear Hrx4 Hrc hf4 tA tB wA wB wA1 wB1
          obtain ⟨b1, o1, rfl, kA⟩ := cell_ln Hrx5.out HN.out A hA2
          obtain ⟨b1', o1', e1, kB⟩ := cell_ln Hrx5.out HN.out B hB2
          simp only [Option.some.injEq, Addr.mk.injEq, and_true] at e1
          obtain ⟨rfl, rfl⟩ := e1
          obtain ⟨b2, o2, rfl, cA⟩ := cell_code Hrc5.out A hA2
          obtain ⟨b2', o2', e2, cB⟩ := cell_code Hrc5.out B hB2
          simp only [Option.some.injEq, Addr.mk.injEq, and_true] at e2
          obtain ⟨rfl, rfl⟩ := e2
          have hAN : (A : Int) < (N : Int) := by omega
          have hBN : (B : Int) < (N : Int) := by omega
          have cxA := kA _ (Fr.refl _ _)
          have cxB := kB _ (Fr.refl _ _)
          obtain ⟨yA, hyA⟩ : ∃ y, y = ln l A := ⟨_, rfl⟩
          obtain ⟨yB, hyB⟩ : ∃ y, y = ln l B := ⟨_, rfl⟩
          rw [← hyA] at cxA kA
          rw [← hyB] at cxB kB
          have HyA : Hid _ := hyA
          have HyB : Hid _ := hyB
          have KA : Hid _ := kA
          have KB : Hid _ := kB
          have CA : Hid _ := cA
          have CB : Hid _ := cB
          clear kA kB cA cB hyA hyB
          by_cases hA0 : yA = 0
          · subst hA0
            go_wp2
            all_goals (go_ret; exact ⟨rfl, hfx.below (Nat.le_refl _) (fun k h => h.elim)⟩)
          · have hA1 : ((yA : Int) == 0) = false := by rw [beq_eq_false_iff_ne]; omega
            by_cases hB0 : yB = 0
            · subst hB0
              go_wp2
              all_goals (go_ret; exact ⟨rfl, hfx.below (Nat.le_refl _) (fun k h => h.elim)⟩)
            · have hB1 : ((yB : Int) == 0) = false := by rw [beq_eq_false_iff_ne]; omega
              by_cases hAB : A = B
              · subst hAB
                go_wp2
                all_goals (go_ret; exact ⟨rfl, hfx.below (Nat.le_refl _) (fun k h => h.elim)⟩)
              · have hAB1 : ((A : Int) == (B : Int)) = false := by rw [beq_eq_false_iff_ne]; omega
                have hAB2 : ((B : Int) == (A : Int)) = false := by rw [beq_eq_false_iff_ne]; omega
                by_cases hle : yB < yA
                · have hdl : decide ((yB : Int) < (yA : Int)) = true := decide_eq_true (by omega)
                  have pA : ∀ z, Fr wx.drew z (fun _ => False) → z.cell? ⟨b1, o1 + A, none⟩ = some (.int .i64 (yA : Int)) := fun z hz => KA.out z ((Fr.refl wx _).drew.none hz)
                  have pB : ∀ z, Fr wx.drew z (fun _ => False) → z.cell? ⟨b1, o1 + B, none⟩ = some (.int .i64 (yB : Int)) := fun z hz => KB.out z ((Fr.refl wx _).drew.none hz)
                  go_wp2
                  refine wp_region_all (fun _ => False) [.c ?_, .c ?_, .c ?_, .c ?_, .c ?_, .c ?_, .c ?_, .c ?_, .c ?_] (by kernel_rfl) (by kernel_rfl) rfl ?last ?walk
                  case last => repeat (first | exact Lasts.nil | refine Lasts.c ?_)
                  case walk =>
                    repeat (first | (refine wpAll_take rfl rfl (fun x hx => ?_) ?_; (focus (go_simp; with_reducible rfl)); simp only [Act.put, List.setIfInBounds_toArray, List.set_cons_zero, List.set_cons_succ]) | (refine wpAll_pass rfl rfl ?_ ?_; (focus rfl); simp only [Act.put, List.setIfInBounds_toArray, List.set_cons_zero, List.set_cons_succ]))
                    refine wpAll_nil (fun wy hfy _ => ?_)
                    replace hfy : Fr wx wy (fun _ => False) := (Fr.refl wx (fun _ => False)).drew.none hfy
                    clear pA pB cxA cxB
                    obtain ⟨ca, hca⟩ : ∃ c, c = codeOf l B := ⟨_, rfl⟩
                    obtain ⟨cb, hcb⟩ : ∃ c, c = codeOf l A := ⟨_, rfl⟩
                    have C1 : Hid _ := CB.out
                    have C2 : Hid _ := CA.out
                    rw [← hca] at C1
                    rw [← hcb] at C2
                    have p1 : ∀ z, Fr wy.drew z (fun _ => False) → z.cell? ⟨b2, o2 + B, none⟩ = some (.int .i64 (ca : Int)) := fun z hz => C1.out z (hfy.none ((Fr.refl wy _).drew.none hz))
                    have p2 : ∀ z, Fr wy.drew z (fun _ => False) → z.cell? ⟨b2, o2 + A, none⟩ = some (.int .i64 (cb : Int)) := fun z hz => C2.out z (hfy.none ((Fr.refl wy _).drew.none hz))
                    have p3 : ∀ z, Fr wy.drew z (fun _ => False) → z.cell? ⟨b1, o1 + B, none⟩ = some (.int .i64 (yB : Int)) := fun z hz => KB.out z (hfy.none ((Fr.refl wy _).drew.none hz))
                    have p4 : ∀ z, Fr wy.drew z (fun _ => False) → z.cell? ⟨b1, o1 + A, none⟩ = some (.int .i64 (yA : Int)) := fun z hz => KA.out z (hfy.none ((Fr.refl wy _).drew.none hz))
                    have hy15 : yA ≤ 15 := by rw [HyA.out]; exact HR.out.ln A
                    have hyle : yB ≤ yA := by omega
                    have hlt := code_lt HR.out.ln HR.out.kraft (s := A) (by rw [← HyA.out]; omega)
                    have hfree := code_free HR.out.ln (a := B) (b := A) (by rw [← HyB.out]; omega) (by rw [← HyA.out]; omega) (by omega) (by rw [← HyB.out, ← HyA.out]; exact hyle)
                    rw [← HyA.out, ← hcb] at hlt
                    rw [← HyB.out, ← HyA.out, ← hca, ← hcb] at hfree
                    obtain ⟨P, hP⟩ : ∃ P, P = 2 ^ yA := ⟨_, rfl⟩
                    have hPb : P ≤ 32768 := by rw [hP]; exact Nat.le_trans (Nat.pow_le_pow_right (by omega) hy15) (by decide)
                    have e1 : (2 : Int) ^ yA = (P : Int) := by rw [hP]; simp
                    rw [← hP] at hlt
                    obtain ⟨d, hd⟩ : ∃ d, d = yA - yB := ⟨_, rfl⟩
                    rw [← hd] at hfree
                    obtain ⟨q, hq⟩ : ∃ q, q = cb / 2 ^ d := ⟨_, rfl⟩
                    have e2 : (cb : Int) / 2 ^ d = (q : Int) := by rw [hq]; simp
                    have e3 : (cb : Int) / 2 ^ min d 64 = (q : Int) := by rw [Nat.min_eq_left (by omega)]; exact e2
                    rw [← hq] at hfree
                    obtain ⟨hf1, hf2⟩ := hfree
                    have hge : decide ((0 : Int) ≤ (ca : Int)) = true := decide_eq_true (by omega)
                    have hlt2 : decide ((cb : Int) < (P : Int)) = true := decide_eq_true (by omega)
                    have hlt3 : decide (cb < P) = true := decide_eq_true (by omega)
                    have hdI : (yA : Int) - (yB : Int) = (d : Int) := by omega
                    have hdw : IntKind.i64.wrap ((yA : Int) - (yB : Int)) = (d : Int) := by rw [hdI]; exact IntWalk.i64_in _ (by omega)
                    have hdw2 : IntKind.i64.wrap (d : Int) = (d : Int) := IntWalk.i64_in _ (by omega)
                    have hd0 : (0 : Int) ≤ (d : Int) := by omega
                    have hyb0 : (0 : Int) ≤ (yA : Int) := by omega
                    have hne : ((q : Int) != (ca : Int)) = true := by rw [bne_iff_ne]; omega
                    have hne2 : ((q : Int) == (ca : Int)) = false := by rw [beq_eq_false_iff_ne]; omega
                    have Hlast : Hid ((decide (ca < q)) = (decide (yB < yA) || decide (B < A))) := by
                      show _ = _
                      rw [← Bool.decide_or]
                      exact decide_eq_decide.2 (by omega)
                    have hne3 : (q != ca) = true := by rw [bne_iff_ne]; omega
                    have hne4 : (q == ca) = false := by rw [beq_eq_false_iff_ne]; omega
                    have hpw : IntKind.i64.wrap (P : Int) = (P : Int) := IntWalk.i64_in _ (by omega)
                    obtain ⟨u1, hu1⟩ : ∃ u, u = decide (ca < q) := ⟨_, rfl⟩
                    obtain ⟨u2, hu2⟩ : ∃ u, u = decide (yB < yA) := ⟨_, rfl⟩
                    obtain ⟨u3, hu3⟩ : ∃ u, u = decide (B < A) := ⟨_, rfl⟩
                    rw [← hu1, ← hu2, ← hu3] at Hlast
                    replace hu1 := hu1.symm
                    replace hu2 := hu2.symm
                    replace hu3 := hu3.symm
                    have hv1 : decide ((ca : Int) < (q : Int)) = u1 := by rw [← hu1]; exact decide_eq_decide.2 (by omega)
                    have hv2 : decide ((yB : Int) < (yA : Int)) = u2 := by rw [← hu2]; exact decide_eq_decide.2 (by omega)
                    have hv3 : decide ((B : Int) < (A : Int)) = u3 := by rw [← hu3]; exact decide_eq_decide.2 (by omega)
                    clear hca hcb hP hd hq hf1 hf2 hlt hdI
                    go_wp2
                    cases u2
                    · exact absurd hle (of_decide_eq_false hu2)
                    · have hu : u1 = true := by have := Hlast.out; simpa using this
                      subst hu
                      clear Hlast
                      refine wp_region_all (fun _ => False) (.c ?_ :: .c ?_ :: .c ?_ :: .c ?_ :: .c ?_ :: .c ?_ :: .c ?_ :: .c ?_ :: .c ?_ :: .c ?_ :: .c ?_ :: .c ?_ :: .c ?_ :: .c ?_ :: .c ?_ :: .c ?_ :: .c ?_ :: .c ?_ :: .c ?_ :: .c ?_ :: .c ?_ :: .c ?_ :: .c ?_ :: .c ?_ :: .c ?_ :: .c ?_ :: .c ?_ :: .c ?_ :: .c ?_ :: .c ?_ :: .c ?_ :: .c ?_ :: .c ?_ :: .c ?_ :: .c ?_ :: .c ?_ :: .c ?_ :: .c ?_ :: .c ?_ :: .c ?_ :: .c ?_ :: .c ?_ :: .c ?_ :: .c ?_ :: .c ?_ :: .c ?_ :: .c ?_ :: .c ?_ :: .c ?_ :: .c ?_ :: .c ?_ :: .c ?_ :: .c ?_ :: .c ?_ :: .c ?_ :: .c ?_ :: .c ?_ :: .c ?_ :: .c ?_ :: .c ?_ :: .c ?_ :: .c ?_ :: .c ?_ :: .c ?_ :: .c ?_ :: .c ?_ :: .c ?_ :: .c ?_ :: .c ?_ :: .c ?_ :: .c ?_ :: .c ?_ :: .c ?_ :: .c ?_ :: .c ?_ :: []) (by kernel_rfl) (by kernel_rfl) rfl ?last ?walk
                      case last => repeat (first | exact Lasts.nil | refine Lasts.c ?_)
                      case walk =>
                        repeat (first | (refine wpAll_take rfl rfl (fun x hx => ?_) ?_; (focus (go_simp; with_reducible rfl)); simp only [Act.put, List.setIfInBounds_toArray, List.set_cons_zero, List.set_cons_succ]) | (refine wpAll_pass rfl rfl ?_ ?_; (focus rfl); simp only [Act.put, List.setIfInBounds_toArray, List.set_cons_zero, List.set_cons_succ]))
                        refine wpAll_nil (fun wz hfz _ => ?_)
                        replace hfz : Fr wy wz (fun _ => False) := (Fr.refl wy (fun _ => False)).drew.none hfz
                        go_wp2
                        go_ret
                        exact ⟨rfl, (hfx.none (hfy.none hfz)).below (Nat.le_refl _) (fun k h => h.elim)⟩
                · have hdl : decide ((yB : Int) < (yA : Int)) = false := decide_eq_false (by omega)
                  have pA : ∀ z, Fr wx.drew z (fun _ => False) → z.cell? ⟨b1, o1 + A, none⟩ = some (.int .i64 (yA : Int)) := fun z hz => KA.out z ((Fr.refl wx _).drew.none hz)
                  have pB : ∀ z, Fr wx.drew z (fun _ => False) → z.cell? ⟨b1, o1 + B, none⟩ = some (.int .i64 (yB : Int)) := fun z hz => KB.out z ((Fr.refl wx _).drew.none hz)
                  go_wp2
                  refine wp_region_all (fun _ => False) [.c ?_, .c ?_, .c ?_, .c ?_, .c ?_, .c ?_, .c ?_, .c ?_, .c ?_] (by kernel_rfl) (by kernel_rfl) rfl ?last ?walk
                  case last => repeat (first | exact Lasts.nil | refine Lasts.c ?_)
                  case walk =>
                    repeat (first | (refine wpAll_take rfl rfl (fun x hx => ?_) ?_; (focus (go_simp; with_reducible rfl)); simp only [Act.put, List.setIfInBounds_toArray, List.set_cons_zero, List.set_cons_succ]) | (refine wpAll_pass rfl rfl ?_ ?_; (focus rfl); simp only [Act.put, List.setIfInBounds_toArray, List.set_cons_zero, List.set_cons_succ]))
                    refine wpAll_nil (fun wy hfy _ => ?_)
                    replace hfy : Fr wx wy (fun _ => False) := (Fr.refl wx (fun _ => False)).drew.none hfy
                    clear pA pB cxA cxB
                    obtain ⟨ca, hca⟩ : ∃ c, c = codeOf l A := ⟨_, rfl⟩
                    obtain ⟨cb, hcb⟩ : ∃ c, c = codeOf l B := ⟨_, rfl⟩
                    have C1 : Hid _ := CA.out
                    have C2 : Hid _ := CB.out
                    rw [← hca] at C1
                    rw [← hcb] at C2
                    have p1 : ∀ z, Fr wy.drew z (fun _ => False) → z.cell? ⟨b2, o2 + A, none⟩ = some (.int .i64 (ca : Int)) := fun z hz => C1.out z (hfy.none ((Fr.refl wy _).drew.none hz))
                    have p2 : ∀ z, Fr wy.drew z (fun _ => False) → z.cell? ⟨b2, o2 + B, none⟩ = some (.int .i64 (cb : Int)) := fun z hz => C2.out z (hfy.none ((Fr.refl wy _).drew.none hz))
                    have p3 : ∀ z, Fr wy.drew z (fun _ => False) → z.cell? ⟨b1, o1 + A, none⟩ = some (.int .i64 (yA : Int)) := fun z hz => KA.out z (hfy.none ((Fr.refl wy _).drew.none hz))
                    have p4 : ∀ z, Fr wy.drew z (fun _ => False) → z.cell? ⟨b1, o1 + B, none⟩ = some (.int .i64 (yB : Int)) := fun z hz => KB.out z (hfy.none ((Fr.refl wy _).drew.none hz))
                    have hy15 : yB ≤ 15 := by rw [HyB.out]; exact HR.out.ln B
                    have hyle : yA ≤ yB := by omega
                    have hlt := code_lt HR.out.ln HR.out.kraft (s := B) (by rw [← HyB.out]; omega)
                    have hfree := code_free HR.out.ln (a := A) (b := B) (by rw [← HyA.out]; omega) (by rw [← HyB.out]; omega) (by omega) (by rw [← HyA.out, ← HyB.out]; exact hyle)
                    rw [← HyB.out, ← hcb] at hlt
                    rw [← HyA.out, ← HyB.out, ← hca, ← hcb] at hfree
                    obtain ⟨P, hP⟩ : ∃ P, P = 2 ^ yB := ⟨_, rfl⟩
                    have hPb : P ≤ 32768 := by rw [hP]; exact Nat.le_trans (Nat.pow_le_pow_right (by omega) hy15) (by decide)
                    have e1 : (2 : Int) ^ yB = (P : Int) := by rw [hP]; simp
                    rw [← hP] at hlt
                    obtain ⟨d, hd⟩ : ∃ d, d = yB - yA := ⟨_, rfl⟩
                    rw [← hd] at hfree
                    obtain ⟨q, hq⟩ : ∃ q, q = cb / 2 ^ d := ⟨_, rfl⟩
                    have e2 : (cb : Int) / 2 ^ d = (q : Int) := by rw [hq]; simp
                    have e3 : (cb : Int) / 2 ^ min d 64 = (q : Int) := by rw [Nat.min_eq_left (by omega)]; exact e2
                    rw [← hq] at hfree
                    obtain ⟨hf1, hf2⟩ := hfree
                    have hge : decide ((0 : Int) ≤ (ca : Int)) = true := decide_eq_true (by omega)
                    have hlt2 : decide ((cb : Int) < (P : Int)) = true := decide_eq_true (by omega)
                    have hlt3 : decide (cb < P) = true := decide_eq_true (by omega)
                    have hdI : (yB : Int) - (yA : Int) = (d : Int) := by omega
                    have hdw : IntKind.i64.wrap ((yB : Int) - (yA : Int)) = (d : Int) := by rw [hdI]; exact IntWalk.i64_in _ (by omega)
                    have hdw2 : IntKind.i64.wrap (d : Int) = (d : Int) := IntWalk.i64_in _ (by omega)
                    have hd0 : (0 : Int) ≤ (d : Int) := by omega
                    have hyb0 : (0 : Int) ≤ (yB : Int) := by omega
                    have hne : ((q : Int) != (ca : Int)) = true := by rw [bne_iff_ne]; omega
                    have hne2 : ((q : Int) == (ca : Int)) = false := by rw [beq_eq_false_iff_ne]; omega
                    have Hlast : Hid ((decide (ca < q)) = (decide (yA < yB) || decide (A < B))) := by
                      show _ = _
                      rw [← Bool.decide_or]
                      exact decide_eq_decide.2 (by omega)
                    have hne3 : (q != ca) = true := by rw [bne_iff_ne]; omega
                    have hne4 : (q == ca) = false := by rw [beq_eq_false_iff_ne]; omega
                    have hpw : IntKind.i64.wrap (P : Int) = (P : Int) := IntWalk.i64_in _ (by omega)
                    obtain ⟨u1, hu1⟩ : ∃ u, u = decide (ca < q) := ⟨_, rfl⟩
                    obtain ⟨u2, hu2⟩ : ∃ u, u = decide (yA < yB) := ⟨_, rfl⟩
                    obtain ⟨u3, hu3⟩ : ∃ u, u = decide (A < B) := ⟨_, rfl⟩
                    rw [← hu1, ← hu2, ← hu3] at Hlast
                    replace hu1 := hu1.symm
                    replace hu2 := hu2.symm
                    replace hu3 := hu3.symm
                    have hv1 : decide ((ca : Int) < (q : Int)) = u1 := by rw [← hu1]; exact decide_eq_decide.2 (by omega)
                    have hv2 : decide ((yA : Int) < (yB : Int)) = u2 := by rw [← hu2]; exact decide_eq_decide.2 (by omega)
                    have hv3 : decide ((A : Int) < (B : Int)) = u3 := by rw [← hu3]; exact decide_eq_decide.2 (by omega)
                    clear hca hcb hP hd hq hf1 hf2 hlt hdI
                    go_wp2
                    cases u2
                    · have hu : u1 = u3 := by have := Hlast.out; simpa using this
                      subst hu
                      clear Hlast
                      refine wp_region_all (fun _ => False) (.c ?_ :: .c ?_ :: .c ?_ :: .c ?_ :: .c ?_ :: .c ?_ :: .c ?_ :: .c ?_ :: .c ?_ :: .c ?_ :: .c ?_ :: .c ?_ :: .c ?_ :: .c ?_ :: .c ?_ :: .c ?_ :: .c ?_ :: .c ?_ :: .c ?_ :: .c ?_ :: .c ?_ :: .c ?_ :: .c ?_ :: .c ?_ :: .c ?_ :: .c ?_ :: .c ?_ :: .c ?_ :: .c ?_ :: .c ?_ :: .c ?_ :: .c ?_ :: .c ?_ :: .c ?_ :: .c ?_ :: .c ?_ :: .c ?_ :: .c ?_ :: .c ?_ :: .c ?_ :: .c ?_ :: .c ?_ :: .c ?_ :: .c ?_ :: .c ?_ :: .c ?_ :: .c ?_ :: .c ?_ :: .c ?_ :: .c ?_ :: .c ?_ :: .c ?_ :: .c ?_ :: .c ?_ :: .c ?_ :: .c ?_ :: .c ?_ :: .c ?_ :: .c ?_ :: .c ?_ :: .c ?_ :: .c ?_ :: .c ?_ :: .c ?_ :: .c ?_ :: .c ?_ :: .c ?_ :: .c ?_ :: .c ?_ :: .c ?_ :: .c ?_ :: .c ?_ :: .c ?_ :: .c ?_ :: .c ?_ :: []) (by kernel_rfl) (by kernel_rfl) rfl ?last ?walk
                      case last => repeat (first | exact Lasts.nil | refine Lasts.c ?_)
                      case walk =>
                        repeat (first | (refine wpAll_take rfl rfl (fun x hx => ?_) ?_; (focus (go_simp; with_reducible rfl)); simp only [Act.put, List.setIfInBounds_toArray, List.set_cons_zero, List.set_cons_succ]) | (refine wpAll_pass rfl rfl ?_ ?_; (focus rfl); simp only [Act.put, List.setIfInBounds_toArray, List.set_cons_zero, List.set_cons_succ]))
                        refine wpAll_nil (fun wz hfz _ => ?_)
                        replace hfz : Fr wy wz (fun _ => False) := (Fr.refl wy (fun _ => False)).drew.none hfz
                        go_wp2
                        go_ret
                        exact ⟨rfl, (hfx.none (hfy.none hfz)).below (Nat.le_refl _) (fun k h => h.elim)⟩
                    · have hu : u1 = true := by have := Hlast.out; simpa using this
                      subst hu
                      clear Hlast
                      refine wp_region_all (fun _ => False) (.c ?_ :: .c ?_ :: .c ?_ :: .c ?_ :: .c ?_ :: .c ?_ :: .c ?_ :: .c ?_ :: .c ?_ :: .c ?_ :: .c ?_ :: .c ?_ :: .c ?_ :: .c ?_ :: .c ?_ :: .c ?_ :: .c ?_ :: .c ?_ :: .c ?_ :: .c ?_ :: .c ?_ :: .c ?_ :: .c ?_ :: .c ?_ :: .c ?_ :: .c ?_ :: .c ?_ :: .c ?_ :: .c ?_ :: .c ?_ :: .c ?_ :: .c ?_ :: .c ?_ :: .c ?_ :: .c ?_ :: .c ?_ :: .c ?_ :: .c ?_ :: .c ?_ :: .c ?_ :: .c ?_ :: .c ?_ :: .c ?_ :: .c ?_ :: .c ?_ :: .c ?_ :: .c ?_ :: .c ?_ :: .c ?_ :: .c ?_ :: .c ?_ :: .c ?_ :: .c ?_ :: .c ?_ :: .c ?_ :: .c ?_ :: .c ?_ :: .c ?_ :: .c ?_ :: .c ?_ :: .c ?_ :: .c ?_ :: .c ?_ :: .c ?_ :: .c ?_ :: .c ?_ :: .c ?_ :: .c ?_ :: .c ?_ :: .c ?_ :: .c ?_ :: .c ?_ :: .c ?_ :: .c ?_ :: .c ?_ :: []) (by kernel_rfl) (by kernel_rfl) rfl ?last ?walk
                      case last => repeat (first | exact Lasts.nil | refine Lasts.c ?_)
                      case walk =>
                        repeat (first | (refine wpAll_take rfl rfl (fun x hx => ?_) ?_; (focus (go_simp; with_reducible rfl)); simp only [Act.put, List.setIfInBounds_toArray, List.set_cons_zero, List.set_cons_succ]) | (refine wpAll_pass rfl rfl ?_ ?_; (focus rfl); simp only [Act.put, List.setIfInBounds_toArray, List.set_cons_zero, List.set_cons_succ]))
                        refine wpAll_nil (fun wz hfz _ => ?_)
                        replace hfz : Fr wy wz (fun _ => False) := (Fr.refl wy (fun _ => False)).drew.none hfz
                        go_wp2
                        go_ret
                        exact ⟨rfl, (hfx.none (hfy.none hfz)).below (Nat.le_refl _) (fun k h => h.elim)⟩

end Go.Proofs.Ytdbbngppdcpcgaa.codeFree
