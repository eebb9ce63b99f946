/-
  The walk of the law MergeBest, under the condition that merge's functions answer as their contracts say.
-/
import Derived.Test.YtjjanlpkhoeejaaRows
import Derived.Test.YtjjanlpkhoeejaaMHelp
import Derived.Test.YtjjanlpkhoeejaaMTally
import Derived.Test.YtjjanlpkhoeejaaRItems
import Derived.Deep.CutRange
namespace Go.Proofs.Ytjjanlpkhoeejaa.mergeBest
open Go.ChangeShapes Go.WideShapes Go.ChangeAt Go.RowKit

set_option maxRecDepth 4000 in
set_option maxHeartbeats 1600000 in
theorem walkM (M : MC) (a0 : Option Addr) (len0 cap0 : Nat) (z0 : List Int) (a1 : Int) (a2 : Int) (a3 : Int) (w : World) (w0 : IsRow .u16 w a0 len0 cap0 z0) (w1 : (Lit.int .u8 a1).wf = true) (w2 : (Lit.int .u8 a2).wf = true) (w3 : (Lit.int .u8 a3).wf = true) :
    Calls Try.prog 5 #[.slice a0 len0 cap0, .int .u8 a1, .int .u8 a2, .int .u8 a3] w fun e w' => e = .returned (.bool true) ∧ Below w.heap.size w w' := by
  obtain ⟨xs, hxl, hxx, hrd, -⟩ := reads_isRow small_u16 (by decide) w0
  have hxs : ∀ x ∈ xs, x < 65536 := fun x hx => by
    obtain ⟨j, hj⟩ := List.getElem?_of_mem hx
    have := hxx j
    rwa [List.getD_eq_getElem?_getD, hj] at this
  obtain ⟨hb1, hb1'⟩ := bounds_u8 w1
  obtain ⟨hb2, hb2'⟩ := bounds_u8 w2
  obtain ⟨hb3, hb3'⟩ := bounds_u8 w3
  obtain ⟨k, rfl⟩ := Int.eq_ofNat_of_zero_le hb1
  obtain ⟨ii, rfl⟩ := Int.eq_ofNat_of_zero_le hb2
  obtain ⟨jj, rfl⟩ := Int.eq_ofNat_of_zero_le hb3
  have Hrd : Hid (Reads .u16 w (.slice a0 len0 cap0) xs) := hrd
  have Hxs : Hid _ := hxs
  have Hxl : Hid _ := hxl
  clear w0 w1 w2 w3 hrd hxs hxx hb1 hb2 hb3 hxl
  go_enter Try.func5, Try.ntmps5
  go_wp2_with fail
  refine (known_any M w).mono ?_
  rintro e w1 ⟨rfl, hf1⟩
  by_cases hbig : 40 < len0
  · have hd : decide ((40 : Int) < (len0 : Int)) = true := decide_eq_true (by omega)
    go_wp2
    all_goals (go_ret; exact ⟨rfl, hf1.below (Nat.le_refl _) (fun k h => h.elim)⟩)
  · by_cases hz : len0 = 0
    · subst hz
      go_wp2
      all_goals (go_ret; exact ⟨rfl, hf1.below (Nat.le_refl _) (fun k h => h.elim)⟩)
    · have hd : decide ((40 : Int) < (len0 : Int)) = false := decide_eq_false (by omega)
      have hz1 : ((len0 : Int) == 0) = false := by rw [beq_eq_false_iff_ne]; omega
      go_wp2_with fail
      refine (counts_any _ xs k w1 (Hrd.out.keep hf1) Hxs.out (by omega) (by rw [Hxl.out]; omega)).mono ?_
      rintro e w2 ⟨sc, rfl, hoc, hf2, -⟩
      replace hf2 := hf1.none hf2
      have hcl : (xs.map (madeOf k)).length = len0 := by rw [List.length_map, Hxl.out]
      have hcb : ∀ c ∈ xs.map (madeOf k), c ≤ 1099511627776 := fun c hc => by
        obtain ⟨x, hx, rfl⟩ := List.mem_map.1 hc
        have := madeOf_le k x (Hxs.out x hx)
        omega
      generalize xs.map (madeOf k) = cs at hoc hcl hcb
      have hrc := hoc.reads
      obtain ⟨ac, cc, rfl, hcc, -⟩ := id hrc
      rw [length_row, hcl] at hrc hcc ⊢
      have Hcl : Hid _ := hcl
      have Hcb : Hid _ := hcb
      have hth : (there cs).length ≤ 40 := by have := there_le cs; omega
      have hp15 : 40 ≤ 2 ^ 15 := by decide
      have Hl1 : Hid _ := len_pmLens (counts := cs) (L := 15) (by omega) (by omega)
      have Hord : Hid (∀ a b, a < len0 → b < len0 → cs.getD b 0 < cs.getD a 0 → 0 < cs.getD b 0 → (pmLens cs 15).getD a 0 ≤ (pmLens cs 15).getD b 0) := fun a b ha hb h1 h2 => by
        rw [get_pmLens (by omega) (by omega) a (by omega), get_pmLens (by omega) (by omega) b (by omega)]
        exact pm_order (by omega) (by omega) a b h1 h2
      have Hsm : Hid _ := lens_small (cs := cs) (L := 15) (by omega) (by omega) (by omega)
      have Hflat : Hid (∀ f, (there cs).length ≤ 2 ^ f → 1 ≤ f → f ≤ 15 → costZ (zs cs) (pmLens cs 15) ≤ costZ (zs cs) ((List.range len0).map fun s => if cnt cs s = 0 then 0 else f)) := fun f h1 h2 h3 => by
        rw [cost_pm hcb (by omega) (by omega)]
        refine Nat.le_trans (cost_flat (L := 15) (by omega) h1 h2 h3) ?_
        rw [costZ_sum _ _ (by simp [zs_length, hcl]), zs_length]
        unfold costBy
        refine Nat.le_of_eq (sum_congr fun s hs => ?_)
        have hs' : s < cs.length := List.mem_range.1 hs
        have e : (zs cs).getD s 0 = ((cnt cs s : Nat) : Int) := by simp [zs, cnt, List.getD_eq_getElem?_getD, hs']
        have hc : cnt cs s ≤ 1099511627776 := by
          unfold cnt
          rw [List.getD_eq_getElem?_getD, List.getElem?_eq_getElem hs']
          exact hcb _ (List.getElem_mem hs')
        rw [e, show clampN ((cnt cs s : Nat) : Int) = cnt cs s by unfold clampN; omega]
        congr 1
        rw [List.getD_eq_getElem?_getD, List.getElem?_map, List.getElem?_range (by omega)]
        rfl
      have Hth : Hid ((symsTo (cnt cs) len0).length = (there cs).length) := by show _ = _; unfold there; rw [hcl]
      have Hth40 : Hid _ := hth
      clear hoc hf1 hcl hcb hp15 hth
      go_wp2_with fail
      have hcm : clampM 15 = 15 := by decide
      have Hzc : Hid _ := zs_clamp cs Hcb.out
      have hcL := M.lens _ _ 15 w2 hrc.z (by show (zs cs).length ≤ 1000; rw [zs_length, Hcl.out]; omega) (zs_in64 cs Hcb.out) (by omega) (by omega)
      rw [show ((cs.map fun (b : Nat) => (b : Int)).map clampN) = cs from Hzc.out, hcm] at hcL
      rw [Hcl.out] at Hl1
      generalize pmLens cs 15 = A at hcL Hl1 Hord Hsm Hflat
      refine hcL.mono ?_
      rintro e w3 ⟨sa, rfl, hra, hf3⟩
      obtain ⟨aa, ca, rfl, hca, -⟩ := id hra
      rw [length_row, Hl1.out] at hra hca ⊢
      have Hrc : Hid (Reads .i64 w3 (.slice ac len0 cc) cs) := hrc.keep hf3
      have Hra : Hid (Reads .i64 w3 (.slice aa len0 ca) A) := hra
      replace hf3 := hf2.none hf3
      clear hf2 hra hrc hcL hcm
      obtain ⟨A1, hA1⟩ : ∃ r, r = ii % len0 := ⟨_, rfl⟩
      obtain ⟨B1, hB1⟩ : ∃ r, r = jj % len0 := ⟨_, rfl⟩
      have hA2 : A1 < len0 := by rw [hA1]; exact Nat.mod_lt _ (by omega)
      have hB2 : B1 < len0 := by rw [hB1]; exact Nat.mod_lt _ (by omega)
      have tA : (ii : Int).tmod (len0 : Int) = (A1 : Int) := by rw [Int.tmod_eq_emod_of_nonneg (by omega), hA1]; rfl
      have tB : (jj : Int).tmod (len0 : Int) = (B1 : Int) := by rw [Int.tmod_eq_emod_of_nonneg (by omega), hB1]; rfl
      have wA : IntKind.i64.wrap (ii : Int) = (ii : Int) := IntWalk.i64_in _ (by omega)
      have wB : IntKind.i64.wrap (jj : Int) = (jj : Int) := IntWalk.i64_in _ (by omega)
      have wA1 : IntKind.i64.wrap (A1 : Int) = (A1 : Int) := IntWalk.i64_in _ (by omega)
      have wB1 : IntKind.i64.wrap (B1 : Int) = (B1 : Int) := IntWalk.i64_in _ (by omega)
      clear hA1 hB1
      go_wp2_with fail
      refine wp_region_all (fun _ => False) [.c ?_, .c ?_, .c ?_, .c ?_, .c ?_, .c ?_, .c ?_, .c ?_, .c ?_, .c ?_, .c ?_, .c ?_] (by kernel_rfl) (by kernel_rfl) rfl ?last ?walk
      case last => repeat (first | exact Lasts.nil | refine Lasts.c ?_ | refine Lasts.b (fun v w w' hf h => Reads.keep h hf) ?_)
      case walk =>
        repeat (refine wpAll_take rfl rfl (fun x hx => ?_) ?_; (focus (go_simp; with_reducible rfl)); simp only [Act.put, List.setIfInBounds_toArray, List.set_cons_zero, List.set_cons_succ])
        refine wpAll_nil (fun wx hfx _ => ?_)
        replace hfx : Fr w3 wx (fun _ => False) := (Fr.refl w3 (fun _ => False)).drew.none hfx
        have Hrc4 : Hid (Reads .i64 wx (.slice ac len0 cc) cs) := Hrc.out.keep hfx
        have Hra4 : Hid (Reads .i64 wx (.slice aa len0 ca) A) := Hra.out.keep hfx
        replace hfx := hf3.none hfx
        clear Hrc Hra hf3 tA tB wA wB wA1 wB1
        have getz : ∀ (v : Value) (l : List Nat) (s : Nat), Reads .i64 wx v l → s < l.length → ∃ b off c, v = .slice (some ⟨b, off, none⟩) l.length c ∧ ∀ x, Fr wx.drew x (fun _ => False) → x.cell? ⟨b, off + s, none⟩ = some (.int .i64 ((l.getD s 0 : Nat) : Int)) := fun v l s h hs => by
          obtain ⟨b, off, c, e, -, k⟩ := ReadsZ.get h.z s ((l.getD s 0 : Nat) : Int) (by rw [List.getElem?_map, List.getElem?_eq_getElem hs, List.getD_eq_getElem?_getD, List.getElem?_eq_getElem hs]; rfl)
          rw [List.length_map] at e
          exact ⟨b, off, c, e, fun x hx => k x ((Fr.refl wx _).drew.none hx)⟩
        obtain ⟨b1, o1, q1, e, kcA⟩ := getz _ cs A1 Hrc4.out (by rw [Hcl.out]; exact hA2)
        obtain ⟨b1', o1', q1', e', kcB⟩ := getz _ cs B1 Hrc4.out (by rw [Hcl.out]; exact hB2)
        simp only [Value.slice.injEq] at e e'
        obtain ⟨rfl, -, rfl⟩ := e
        obtain ⟨e', -, -⟩ := e'
        simp only [Option.some.injEq, Addr.mk.injEq, and_true] at e'
        obtain ⟨rfl, rfl⟩ := e'
        obtain ⟨b2, o2, q2, e, kxA⟩ := getz _ A A1 Hra4.out (by rw [Hl1.out]; exact hA2)
        obtain ⟨b2', o2', q2', e', kxB⟩ := getz _ A B1 Hra4.out (by rw [Hl1.out]; exact hB2)
        simp only [Value.slice.injEq] at e e'
        obtain ⟨rfl, -, rfl⟩ := e
        obtain ⟨e', -, -⟩ := e'
        simp only [Option.some.injEq, Addr.mk.injEq, and_true] at e'
        obtain ⟨rfl, rfl⟩ := e'
        have hord := Hord.out A1 B1 hA2 hB2
        generalize cs.getD A1 0 = cA at kcA hord
        generalize cs.getD B1 0 = cB at kcB hord
        generalize A.getD A1 0 = xA at kxA hord
        generalize A.getD B1 0 = xB at kxB hord
        have hi1 : (A1 : Int) < (len0 : Int) := by omega
        have hi2 : (B1 : Int) < (len0 : Int) := by omega
        have Hor : Hid _ := hord
        clear getz hord
        go_wp2_with fail
        go_cut [74] from 48 to 73 (fun V wy => V = .bool false ∧ Fr wx wy (fun _ => False))
        case first =>
          by_cases h1 : cB < cA
          · have d1 : decide ((cB : Int) < (cA : Int)) = true := decide_eq_true (by omega)
            by_cases h2 : 0 < cB
            · have d2 : decide ((0 : Int) < (cB : Int)) = true := decide_eq_true (by omega)
              have h3 := Hor.out h1 h2
              have d3 : decide ((xB : Int) < (xA : Int)) = false := decide_eq_false (by omega)
              have h4 : ¬ xB < xA := by omega
              refine wp_region_all (fun _ => False) [.c ?_, .c ?_, .c ?_, .c ?_, .c ?_, .c ?_, .c ?_, .c ?_, .c ?_, .c ?_, .c ?_, .c ?_, .c ?_, .c ?_, .c ?_, .c ?_, .c ?_, .c ?_, .c ?_, .c ?_, .c ?_, .c ?_, .c ?_, .c ?_, .c ?_, .c ?_, .c ?_] (by kernel_rfl) (by kernel_rfl) rfl ?last ?walk
              case last => repeat (first | exact Lasts.nil | refine Lasts.c ?_ | refine Lasts.b (fun v w w' hf h => Reads.keep h hf) ?_)
              case walk =>
                repeat (first | (refine wpAll_take rfl rfl (fun x hx => ?_) ?_; (focus (go_simp; with_reducible rfl)); simp only [Act.put, List.setIfInBounds_toArray, List.set_cons_zero, List.set_cons_succ]) | (refine wpAll_pass rfl rfl ?_ ?_; (focus rfl); simp only [Act.put, List.setIfInBounds_toArray, List.set_cons_zero, List.set_cons_succ]))
                refine wpAll_nil (fun wy hfy _ => ?_)
                replace hfy : Fr wx wy (fun _ => False) := (Fr.refl wx (fun _ => False)).drew.none hfy
                go_wp2_with fail
                go_meet
                case rel => exact ⟨rfl, hfy⟩

            · have hc0 : cB = 0 := by omega
              subst hc0
              have d2 : decide ((0 : Int) < ((0 : Nat) : Int)) = false := by decide
              refine wp_region_all (fun _ => False) [.c ?_, .c ?_, .c ?_, .c ?_, .c ?_, .c ?_, .c ?_, .c ?_, .c ?_, .c ?_, .c ?_, .c ?_, .c ?_, .c ?_, .c ?_, .c ?_, .c ?_, .c ?_, .c ?_, .c ?_, .c ?_, .c ?_, .c ?_, .c ?_, .c ?_, .c ?_, .c ?_] (by kernel_rfl) (by kernel_rfl) rfl ?last ?walk
              case last => repeat (first | exact Lasts.nil | refine Lasts.c ?_ | refine Lasts.b (fun v w w' hf h => Reads.keep h hf) ?_)
              case walk =>
                repeat (first | (refine wpAll_take rfl rfl (fun x hx => ?_) ?_; (focus (go_simp; with_reducible rfl)); simp only [Act.put, List.setIfInBounds_toArray, List.set_cons_zero, List.set_cons_succ]) | (refine wpAll_pass rfl rfl ?_ ?_; (focus rfl); simp only [Act.put, List.setIfInBounds_toArray, List.set_cons_zero, List.set_cons_succ]))
                refine wpAll_nil (fun wy hfy _ => ?_)
                replace hfy : Fr wx wy (fun _ => False) := (Fr.refl wx (fun _ => False)).drew.none hfy
                go_wp2_with fail
                go_meet
                case rel => exact ⟨rfl, hfy⟩

          · have d1 : decide ((cB : Int) < (cA : Int)) = false := decide_eq_false (by omega)
            refine wp_region_all (fun _ => False) [.c ?_, .c ?_, .c ?_, .c ?_, .c ?_, .c ?_, .c ?_, .c ?_, .c ?_, .c ?_, .c ?_, .c ?_, .c ?_, .c ?_, .c ?_, .c ?_, .c ?_, .c ?_, .c ?_, .c ?_, .c ?_, .c ?_, .c ?_, .c ?_, .c ?_, .c ?_, .c ?_] (by kernel_rfl) (by kernel_rfl) rfl ?last ?walk
            case last => repeat (first | exact Lasts.nil | refine Lasts.c ?_ | refine Lasts.b (fun v w w' hf h => Reads.keep h hf) ?_)
            case walk =>
              repeat (first | (refine wpAll_take rfl rfl (fun x hx => ?_) ?_; (focus (go_simp; with_reducible rfl)); simp only [Act.put, List.setIfInBounds_toArray, List.set_cons_zero, List.set_cons_succ]) | (refine wpAll_pass rfl rfl ?_ ?_; (focus rfl); simp only [Act.put, List.setIfInBounds_toArray, List.set_cons_zero, List.set_cons_succ]))
              refine wpAll_nil (fun wy hfy _ => ?_)
              replace hfy : Fr wx wy (fun _ => False) := (Fr.refl wx (fun _ => False)).drew.none hfy
              go_wp2_with fail
              go_meet
              case rel => exact ⟨rfl, hfy⟩
        case rest =>
          obtain ⟨rfl, hfc⟩ := hcut
          have Hrc5 : Hid (Reads .i64 wc (.slice (some ⟨b1, o1, none⟩) len0 cc) cs) := Hrc4.out.keep hfc
          have Hra5 : Hid (Reads .i64 wc (.slice (some ⟨b2, o2, none⟩) len0 ca) A) := Hra4.out.keep hfc
          replace hfc := hfx.none hfc
          clear kcA kcB kxA kxB Hor Hord hfx Hrc4 Hra4
          go_wp2_with fail
          go_loopg [13, 15] len0 (fun g N I wr => ∃ i : Nat, g = len0 - i ∧ i ≤ len0 ∧ I = .int .i64 (i : Int) ∧ N = .int .i64 ((symsTo (cnt cs) i).length : Nat) ∧ (symsTo (cnt cs) i).length ≤ i ∧ wr = wc)
          case atStart => exact ⟨0, rfl, by omega, rfl, rfl, by simp [symsTo], rfl⟩
          case round =>
            obtain ⟨i, hg, hi, rfl, rfl, hni, rfl⟩ := hrel
            have Hg : Hid _ := hg
            clear hg
            obtain ⟨n, hn⟩ : ∃ n, n = (symsTo (cnt cs) i).length := ⟨_, rfl⟩
            rw [← hn] at hni ⊢
            have Hn : Hid _ := hn
            clear hn
            by_cases hlt : i < len0
            · obtain ⟨_, _, e, -, hcA⟩ := Hrc5.out
              rw [length_row, Hcl.out] at hcA
              obtain ⟨ba, oa, rfl, hcellA⟩ := hcA (by omega)
              simp only [Value.slice.injEq, Option.some.injEq, Addr.mk.injEq, and_true] at e
              obtain ⟨⟨rfl, rfl⟩, -, rfl⟩ := e
              have ca0 := hcellA i _ (row_get .i64 cs i (by rw [Hcl.out]; exact hlt))
              have Hst : Hid ((symsTo (cnt cs) (i + 1)).length = if cs.getD i 0 = 0 then n else n + 1) := by
                show _ = _
                rw [Hn.out, symsTo]
                by_cases h0 : cnt cs i = 0
                · rw [if_pos h0, if_pos (show cs.getD i 0 = 0 from h0)]
                · rw [if_neg h0, if_neg (show ¬ cs.getD i 0 = 0 from h0), (ins_perm _ i _).length_eq]
                  rfl
              generalize cs.getD i 0 = c at ca0 Hst
              clear hcellA hcA
              by_cases h0 : c = 0
              · subst h0
                have Hst2 : Hid ((symsTo (cnt cs) (i + 1)).length = n) := by show _ = _; rw [Hst.out, if_pos rfl]
                clear Hst
                go_wp2
                go_roundg (len0 - (i + 1))
                case rel => exact ⟨i + 1, rfl, by omega, by go_num, by rw [Hst2.out], by rw [Hst2.out]; omega, rfl⟩
                case measure => rw [Hg.out]; omega
              · have Hst2 : Hid ((symsTo (cnt cs) (i + 1)).length = n + 1) := by show _ = _; rw [Hst.out, if_neg h0]
                have hc0 : (0 : Int) < (c : Int) := by omega
                clear Hst
                go_wp2
                go_roundg (len0 - (i + 1))
                case rel => exact ⟨i + 1, rfl, by omega, by go_num, by rw [Hst2.out]; go_num, by rw [Hst2.out]; omega, rfl⟩
                case measure => rw [Hg.out]; omega
            · have hil : i = len0 := by omega
              have Hnt : Hid (n = (there cs).length) := by show _ = _; rw [Hn.out, hil, Hth.out]
              have hn40 : n ≤ 40 := by have := Hth40.out; rw [← Hnt.out] at this; exact this
              clear hil
              go_wp2_with fail
              go_loopg [14] 40 (fun g F wi => ∃ f : Nat, g = 40 - f ∧ f ≤ 6 ∧ F = .int .i64 (f : Int) ∧ wi = wr)
              case atStart => exact ⟨0, rfl, by omega, rfl, rfl⟩
              case round =>
                obtain ⟨f, hg2, hf6, rfl, rfl⟩ := hrel
                have Hg2 : Hid _ := hg2
                clear hg2
                obtain ⟨P, hP⟩ : ∃ P, P = 2 ^ f := ⟨_, rfl⟩
                have hP64 : P ≤ 64 := by rw [hP]; exact Nat.le_trans (Nat.pow_le_pow_right (by omega) hf6) (by decide)
                have HP : Hid _ := hP
                have hf5 : P < n → f ≤ 5 := fun h => by
                  rcases Nat.lt_or_ge f 6 with h1 | h1
                  · omega
                  · have : 2 ^ 6 ≤ 2 ^ f := Nat.pow_le_pow_right (by omega) h1
                    omega
                have HPw : Hid (wrap64 ((2 : Int) ^ f) = (P : Int)) := by
                  show _ = _
                  have e : (2 : Int) ^ f = ((2 ^ f : Nat) : Int) := by simp
                  rw [e, ← hP]
                  exact wrap64_small _ (by omega) (by omega)
                clear hP
                by_cases hPn : P < n
                · have hf5' := hf5 hPn
                  have hd : decide ((P : Int) < (n : Int)) = true := decide_eq_true (by omega)
                  have hd2 : (P : Int) < (n : Int) := by omega
                  clear hf5
                  have hPw := HPw.out
                  go_wp2
                  go_roundg (40 - (f + 1))
                  case rel => exact ⟨f + 1, rfl, by clear hPw; omega, by go_num, rfl⟩
                  case measure => rw [Hg2.out]; clear hPw; omega
                · have hd : decide ((P : Int) < (n : Int)) = false := decide_eq_false (by omega)
                  have hd2 : ¬ (P : Int) < (n : Int) := by omega
                  have Hfl : Hid ((there cs).length ≤ 2 ^ f) := by show _ ≤ _; rw [← Hnt.out, ← HP.out]; exact Nat.le_of_not_lt hPn
                  obtain ⟨i0, hi0, hz0, hz1', hz2⟩ := info_parts Try.info3
                  clear hf5
                  have hPw := HPw.out
                  go_wp2_with (at_make; refine wpList_make_full _ rfl _ _ 22 rfl 0 3 i0 (.int .i64 0) 1 Try.underlying22 hi0 hz0 hz1' _ _ _ _ len0 rfl rfl rfl rfl ?b1 ?b2 (Nat.zero_le _) ?_)
                  case b1 => (try rw [hz2]); clear hPw; omega
                  case b2 => unfold maxLen; clear hPw; omega
                  intro wm hown hgrow
                  clear hPw HPw hd hd2 hi0 hz0 hz1' hz2
                  have hz : (madeCells #[Value.int .i64 0] len0).toList = row .i64 (fnRow len0 (fun _ => 0)) := by
                    rw [toList_madeCells_one]
                    apply List.ext_getElem?
                    intro t
                    simp only [row, fnRow, List.map_map, List.getElem?_map]
                    by_cases ht : t < len0
                    · simp [ht]
                    · simp [ht]
                  rw [hz] at hown
                  have hfm : Fr wr wm (fun _ => False) := (Fr.refl wr _).grown hgrow (fun k hk => by cases hk)
                  obtain ⟨g, hgq⟩ : ∃ g, g = wr.heap.size := ⟨_, rfl⟩
                  have Hgw : Hid (w.heap.size ≤ g) := by show _ ≤ _; have := hfc.size; omega
                  have Hgb : Hid (b1 < g) := by
                    obtain ⟨b, o, c, e, hb, -⟩ := ReadsZ.get Hrc5.out.z 0 ((cs.getD 0 0 : Nat) : Int) (by rw [List.getElem?_map, List.getElem?_eq_getElem (by rw [Hcl.out]; omega), List.getD_eq_getElem?_getD, List.getElem?_eq_getElem (by rw [Hcl.out]; omega)]; rfl)
                    simp only [Value.slice.injEq, Option.some.injEq, Addr.mk.injEq, and_true] at e
                    show b1 < g
                    omega
                  have Hgb2 : Hid (b2 < g) := by
                    obtain ⟨b, o, c, e, hb, -⟩ := ReadsZ.get Hra5.out.z 0 ((A.getD 0 0 : Nat) : Int) (by rw [List.getElem?_map, List.getElem?_eq_getElem (by rw [Hl1.out]; omega), List.getD_eq_getElem?_getD, List.getElem?_eq_getElem (by rw [Hl1.out]; omega)]; rfl)
                    simp only [Value.slice.injEq, Option.some.injEq, Addr.mk.injEq, and_true] at e
                    show b2 < g
                    omega
                  rw [← hgq] at hown ⊢
                  have Hown : Hid (OwnC wm (.slice (some ⟨g, 0, none⟩) len0 len0) (fnRow len0 (fun _ => 0))) := by unfold OwnC; rw [fnRow_length]; exact hown
                  have Hrc6 : Hid (Reads .i64 wm (.slice (some ⟨b1, o1, none⟩) len0 cc) cs) := Hrc5.out.keep hfm
                  have Hra6 : Hid (Reads .i64 wm (.slice (some ⟨b2, o2, none⟩) len0 ca) A) := Hra5.out.keep hfm
                  have hfwm := hfc.none hfm
                  obtain ⟨F, hF⟩ : ∃ F, F = max f 1 := ⟨_, rfl⟩
                  have HfF : Hid ((f = 0 ∧ F = 1) ∨ (1 ≤ f ∧ f = F)) := by show _ ∨ _; omega
                  have Hfl2 : Hid ((there cs).length ≤ 2 ^ F) := Nat.le_trans Hfl.out (Nat.pow_le_pow_right (by omega) (by omega))
                  have hF1 : 1 ≤ F := by omega
                  have hF6 : F ≤ 6 := by omega
                  clear hgrow hfm hgq hown hz hF Hfl Hrc5 Hra5 hfc
                  go_wp2_with fail
                  go_loopg [17] len0 (fun gg I wy => ∃ q : Nat, gg = len0 - q ∧ q ≤ len0 ∧ I = .int .i64 (q : Int) ∧ OwnC wy (.slice (some ⟨g, 0, none⟩) len0 len0) (fnRow len0 (fun s => if s < q then (if cnt cs s = 0 then 0 else F) else 0)) ∧ Fr w wy (fun _ => False) ∧ Reads .i64 wy (.slice (some ⟨b1, o1, none⟩) len0 cc) cs ∧ Reads .i64 wy (.slice (some ⟨b2, o2, none⟩) len0 ca) A)
                  case atStart => exact ⟨0, rfl, by omega, rfl, by simpa using Hown.out, hfwm, Hrc6.out, Hra6.out⟩
                  case round =>
                    clear Hown hfwm Hrc6 Hra6
                    obtain ⟨q, hgg, hq, rfl, ho, hfy, hrc, hra⟩ := hrel
                    have Hgg : Hid _ := hgg
                    have Ho : Hid _ := ho
                    have Hrc : Hid (Reads .i64 wr (.slice (some ⟨b1, o1, none⟩) len0 cc) cs) := hrc
                    have Hra : Hid (Reads .i64 wr (.slice (some ⟨b2, o2, none⟩) len0 ca) A) := hra
                    clear hgg ho hrc hra
                    by_cases hql : q < len0
                    · obtain ⟨_, _, e, -, hcA⟩ := Hrc.out
                      rw [length_row, Hcl.out] at hcA
                      obtain ⟨ba, oa, rfl, hcellA⟩ := hcA (by omega)
                      simp only [Value.slice.injEq, Option.some.injEq, Addr.mk.injEq, and_true] at e
                      obtain ⟨⟨rfl, rfl⟩, -, rfl⟩ := e
                      have ca0 := hcellA q _ (row_get .i64 cs q (by rw [Hcl.out]; exact hql))
                      have Hcq : Hid (cnt cs q = cs.getD q 0) := rfl
                      generalize cs.getD q 0 = c at ca0 Hcq
                      clear hcellA hcA
                      by_cases h0 : c = 0
                      · subst h0
                        have Hs : Hid (fnRow len0 (fun s => if s < q + 1 then (if cnt cs s = 0 then 0 else F) else 0) = fnRow len0 (fun s => if s < q then (if cnt cs s = 0 then 0 else F) else 0)) := by
                          show _ = _
                          congr 1
                          funext s
                          by_cases hs : s = q
                          · subst hs
                            rw [if_pos (by omega), if_pos Hcq.out, if_neg (by omega)]
                          · by_cases hs2 : s < q
                            · rw [if_pos hs2, if_pos (by omega)]
                            · rw [if_neg hs2, if_neg (by omega)]
                        go_wp2
                        go_roundg (len0 - (q + 1))
                        case rel => exact ⟨q + 1, rfl, by omega, by go_num, by rw [Hs.out]; exact Ho.out, hfy, Hrc.out, Hra.out⟩
                        case measure => rw [Hgg.out]; omega
                      · have hc0 : (0 : Int) < (c : Int) := by omega
                        have hoc := Ho.out
                        unfold OwnC at hoc
                        rw [fnRow_length] at hoc
                        have hfz := World.ownsRow.frozenAt hoc q
                        have hce : wr.cell? ⟨g, q, none⟩ = some (.int .i64 0) := by
                          rw [World.ownsRow.cellAt hoc q (by omega)]
                          simp [row, fnRow, hql]
                        have Hs : Hid (OwnC (wr.setCell ⟨g, q, none⟩ (.int .i64 (F : Int))) (.slice (some ⟨g, 0, none⟩) len0 len0) (fnRow len0 (fun s => if s < q + 1 then (if cnt cs s = 0 then 0 else F) else 0))) := by
                          have := (World.ownsRow.stored hoc q (.int .i64 (F : Int))).1
                          unfold OwnC
                          rw [fnRow_length, ← fnRow_set len0 (fun s => if s < q then (if cnt cs s = 0 then 0 else F) else 0) _ q F ?h1 ?h2, row_set]
                          · exact this
                          case h1 => rw [if_pos (by omega), if_neg (by rw [Hcq.out]; exact h0)]
                          case h2 =>
                            intro t ht
                            by_cases hs2 : t < q
                            · rw [if_pos hs2, if_pos (by omega)]
                            · rw [if_neg hs2, if_neg (by omega)]
                        have hq1 : (q : Int) < (len0 : Int) := by omega
                        clear hoc
                        have hgb := Hgb.out
                        have hgb2 := Hgb2.out
                        rcases HfF.out with ⟨e1, e2⟩ | ⟨e1, e2⟩
                        · subst e1 e2
                          go_wp2
                          go_roundg (len0 - (q + 1))
                          case rel => exact ⟨q + 1, rfl, by omega, by go_num, Hs.out, hfy.setCell ⟨g, q, none⟩ (fun h => by have := Hgw.out; simp at h; omega) _, Hrc.out.frame ((Fr.refl wr (fun k => k = g)).setCell ⟨g, q, none⟩ (fun _ => rfl) _) (fun k hk h => by simp [Value.ownBlock] at hk; omega), Hra.out.frame ((Fr.refl wr (fun k => k = g)).setCell ⟨g, q, none⟩ (fun _ => rfl) _) (fun k hk h => by simp [Value.ownBlock] at hk; omega)⟩
                          case measure => rw [Hgg.out]; omega
                        · subst e2
                          have hf1 : (1 : Int) ≤ (f : Int) := by omega
                          have hf2 : ¬ (f : Int) < 1 := by omega
                          go_wp2
                          go_roundg (len0 - (q + 1))
                          case rel => exact ⟨q + 1, rfl, by omega, by go_num, Hs.out, hfy.setCell ⟨g, q, none⟩ (fun h => by have := Hgw.out; simp at h; omega) _, Hrc.out.frame ((Fr.refl wr (fun k => k = g)).setCell ⟨g, q, none⟩ (fun _ => rfl) _) (fun k hk h => by simp [Value.ownBlock] at hk; omega), Hra.out.frame ((Fr.refl wr (fun k => k = g)).setCell ⟨g, q, none⟩ (fun _ => rfl) _) (fun k hk h => by simp [Value.ownBlock] at hk; omega)⟩
                          case measure => rw [Hgg.out]; omega
                    · have hqe : q = len0 := by omega
                      have hry : Reads .i64 wr (.slice (some ⟨g, 0, none⟩) len0 len0) ((List.range len0).map fun s => if cnt cs s = 0 then 0 else F) := by
                        have := holds_own Ho.out
                        have e : fnRow len0 (fun s => if s < q then (if cnt cs s = 0 then 0 else F) else 0) = (List.range len0).map fun s => if cnt cs s = 0 then 0 else F := by
                          unfold fnRow
                          apply List.map_congr_left
                          intro s hs
                          rw [if_pos (by have := List.mem_range.1 hs; omega)]
                        rw [e] at this
                        exact this
                      have Hfl3 : Hid _ := Hflat.out F Hfl2.out hF1 (by omega)
                      have HY : Hid (∀ l ∈ (List.range len0).map fun s => if cnt cs s = 0 then 0 else F, l ≤ 63) := fun l hl => by
                        obtain ⟨s, -, rfl⟩ := List.mem_map.1 hl
                        split <;> omega
                      generalize ((List.range len0).map fun s => if cnt cs s = 0 then 0 else F) = Y at hry Hfl3 HY
                      have Hry : Hid _ := hry
                      have Hzl : Hid ((zs cs).length ≤ 1000) := by show _ ≤ _; rw [zs_length, Hcl.out]; omega
                      have Hzin : Hid _ := zs_in64 cs Hcb.out
                      have HAs : Hid (∀ l ∈ A, l ≤ 63) := fun l hl => by have := Hsm.out l hl; omega
                      clear hry hqe
                      go_wp2_with fail
                      refine (M.cost _ _ (zs cs) A _ Hrc.out.z Hra.out Hzl.out Hzin.out HAs.out).mono ?_
                      rintro e w5 ⟨rfl, hf5⟩
                      have Hrc5 : Hid (Reads .i64 w5 (.slice (some ⟨b1, o1, none⟩) len0 cc) cs) := Hrc.out.keep hf5
                      have Hra5 : Hid (Reads .i64 w5 (.slice (some ⟨b2, o2, none⟩) len0 ca) A) := Hra.out.keep hf5
                      have Hry5 : Hid (Reads .i64 w5 (.slice (some ⟨g, 0, none⟩) len0 len0) Y) := Hry.out.keep hf5
                      replace hf5 := hfy.none hf5
                      go_wp2_with fail
                      refine (refCost_any _ _ (zs cs) Y _ Hrc5.out.z Hry5.out Hzl.out HY.out).mono ?_
                      rintro e w6 ⟨rfl, hf6'⟩
                      have Hrc6 : Hid (Reads .i64 w6 (.slice (some ⟨b1, o1, none⟩) len0 cc) cs) := Hrc5.out.keep hf6'
                      have Hra6 : Hid (Reads .i64 w6 (.slice (some ⟨b2, o2, none⟩) len0 ca) A) := Hra5.out.keep hf6'
                      replace hf6' := hf5.none hf6'
                      have hct := Hfl3.out
                      obtain ⟨CA, hCA⟩ : ∃ c, c = costZ (zs cs) A := ⟨_, rfl⟩
                      obtain ⟨CY, hCY⟩ : ∃ c, c = costZ (zs cs) Y := ⟨_, rfl⟩
                      rw [← hCA, ← hCY] at hct ⊢
                      have HCA : Hid _ := hCA
                      clear hCA hCY
                      have hd : decide ((CA : Int) ≤ (CY : Int)) = true := decide_eq_true (by omega)
                      go_wp2_with fail
                      refine (M.cost _ _ (zs cs) A _ Hrc6.out.z Hra6.out Hzl.out Hzin.out HAs.out).mono ?_
                      rintro e w7 ⟨rfl, hf7⟩
                      have Hrc7 : Hid (Reads .i64 w7 (.slice (some ⟨b1, o1, none⟩) len0 cc) cs) := Hrc6.out.keep hf7
                      have Hra7 : Hid (Reads .i64 w7 (.slice (some ⟨b2, o2, none⟩) len0 ca) A) := Hra6.out.keep hf7
                      replace hf7 := hf6'.none hf7
                      rw [← HCA.out]
                      go_wp2_with fail
                      refine (refCost_any _ _ (zs cs) A _ Hrc7.out.z Hra7.out Hzl.out HAs.out).mono ?_
                      rintro e w8 ⟨rfl, hf8⟩
                      replace hf8 := hf7.none hf8
                      rw [← HCA.out]
                      go_wp2
                      go_ret
                      exact ⟨rfl, hf8.below (Nat.le_refl _) (fun k h => h.elim)⟩

end Go.Proofs.Ytjjanlpkhoeejaa.mergeBest
