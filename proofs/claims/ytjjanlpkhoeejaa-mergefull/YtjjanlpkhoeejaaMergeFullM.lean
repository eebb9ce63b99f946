/-
  The walk of the law MergeFull, under the condition that merge's functions answer as their contracts say.
-/
import Derived.Test.YtjjanlpkhoeejaaRows
import Derived.Test.YtjjanlpkhoeejaaMHelp
namespace Go.Proofs.Ytjjanlpkhoeejaa.mergeFull
open Go.ChangeShapes Go.WideShapes Go.ChangeAt Go.RowKit

set_option maxRecDepth 4000 in
set_option maxHeartbeats 1600000 in
theorem walkM (M : MC) (a0 : Option Addr) (len0 cap0 : Nat) (z0 : List Int) (a1 : Int) (a2 : Int) (w : World) (w0 : IsRow .u16 w a0 len0 cap0 z0) (w1 : (Lit.int .u8 a1).wf = true) (w2 : (Lit.int .u8 a2).wf = true) :
    Calls Try.prog 4 #[.slice a0 len0 cap0, .int .u8 a1, .int .u8 a2] w fun e w' => e = .returned (.bool true) ∧ Below w.heap.size w w' := by
  obtain ⟨xs, hxl, hxx, hrd, -⟩ := reads_isRow small_u16 (by decide) w0
  have hxs : ∀ x ∈ xs, x < 65536 := fun x hx => by
    obtain ⟨j, hj⟩ := List.getElem?_of_mem hx
    have := hxx j
    rwa [List.getD_eq_getElem?_getD, hj] at this
  obtain ⟨hb1, hb1'⟩ := bounds_u8 w1
  obtain ⟨hb2, hb2'⟩ := bounds_u8 w2
  obtain ⟨k, rfl⟩ := Int.eq_ofNat_of_zero_le hb1
  obtain ⟨m, rfl⟩ := Int.eq_ofNat_of_zero_le hb2
  have Hrd : Hid (Reads .u16 w (.slice a0 len0 cap0) xs) := hrd
  have Hxs : Hid _ := hxs
  have Hxl : Hid _ := hxl
  clear w0 w1 w2 hrd hxs hxx hb1 hb2 hxl
  go_enter Try.func4, Try.ntmps4
  go_wp2_with fail
  refine (known_any M w).mono ?_
  rintro e w1 ⟨rfl, hf1⟩
  by_cases hbig : 60 < len0
  · go_wp2
    go_ret
    exact ⟨rfl, hf1.below (Nat.le_refl _) (fun k h => h.elim)⟩
  · go_wp2_with fail
    refine (counts_any _ xs k w1 (Hrd.out.keep hf1) Hxs.out (by omega) (by rw [Hxl.out]; omega)).mono ?_
    rintro e w2 ⟨sc, rfl, hoc, hf2, -⟩
    replace hf2 := hf1.none hf2
    have hcl : (xs.map (madeOf k)).length = len0 := by rw [List.length_map, Hxl.out]
    have hcb : ∀ c ∈ xs.map (madeOf k), c ≤ 1099511627776 := fun c hc => by
      obtain ⟨x, hx, rfl⟩ := List.mem_map.1 hc
      have := madeOf_le k x (Hxs.out x hx)
      omega
    generalize xs.map (madeOf k) = cs at hoc hcl hcb
    have hrc := hoc.reads
    obtain ⟨ac, cc, rfl, hcc, -⟩ := id hrc
    rw [length_row, hcl] at hrc hcc ⊢
    have Hcl : Hid _ := hcl
    have Hcb : Hid _ := hcb
    obtain ⟨L, hL⟩ : ∃ L, L = m % 9 + 7 := ⟨_, rfl⟩
    have hLe : (m : Int) % 9 + 7 = (L : Int) := by omega
    have hL7 : 7 ≤ L := by omega
    have hL15 : L ≤ 15 := by omega
    have hpow : 128 ≤ 2 ^ L := Nat.le_trans (by decide) (Nat.pow_le_pow_right (by omega) hL7)
    have hth : (there cs).length ≤ 60 := by have := there_le cs; omega
    have Hl1 : Hid _ := len_pmLens (counts := cs) (L := L) (by omega) (by omega)
    have Hget : Hid (∀ s, s < len0 → (0 < (pmLens cs L).getD s 0 ↔ 0 < cs.getD s 0) ∧ (pmLens cs L).getD s 0 ≤ L) := fun s hs => by
      rw [get_pmLens (by omega) (by omega) s (by omega)]
      exact pmLen_pos (by omega) (by omega) s
    have Hkr : Hid (2 ≤ (there cs).length → kraftOf (pmLens cs L) = 32768) := fun h => kraft_full (by omega) (by omega) hL15 h (by omega)
    have Hth : Hid ((symsTo (cnt cs) len0).length = (there cs).length) := by show _ = _; unfold there; rw [hcl]
    have Hsm : Hid _ := lens_small (cs := cs) (L := L) (by omega) (by omega) (by omega)
    clear hL hoc hf1 hcl hcb hpow
    go_wp2_with fail
    have hcm : clampM (L : Int) = L := by unfold clampM; omega
    have Hzc : Hid _ := zs_clamp cs Hcb.out
    have hcL := M.lens _ _ (L : Int) w2 hrc.z (by show (zs cs).length ≤ 1000; rw [zs_length, Hcl.out]; omega) (zs_in64 cs Hcb.out) (by omega) (by omega)
    rw [show ((cs.map fun (b : Nat) => (b : Int)).map clampN) = cs from Hzc.out, hcm] at hcL
    rw [Hcl.out] at Hl1
    generalize pmLens cs L = A at hcL Hl1 Hget Hkr Hsm
    refine hcL.mono ?_
    rintro e w3 ⟨sa, rfl, hra, hf3⟩
    obtain ⟨aa, ca, rfl, hca, -⟩ := id hra
    rw [length_row, Hl1.out] at hra hca ⊢
    have Hrc : Hid (Reads .i64 w3 (.slice ac len0 cc) cs) := hrc.keep hf3
    have Hra : Hid (Reads .i64 w3 (.slice aa len0 ca) A) := hra
    replace hf3 := hf2.none hf3
    clear hf2 hra hrc hcL hcm
    go_wp2_with fail
    go_loopg [10, 11] len0 (fun g N I wr => ∃ i : Nat, g = len0 - i ∧ i ≤ len0 ∧ I = .int .i64 (i : Int) ∧ N = .int .i64 ((symsTo (cnt cs) i).length : Nat) ∧ (symsTo (cnt cs) i).length ≤ i ∧ wr = w3)
    case atStart => exact ⟨0, rfl, by omega, rfl, rfl, by simp [symsTo], rfl⟩
    case round =>
      obtain ⟨i, hg, hi, rfl, rfl, hni, rfl⟩ := hrel
      have Hg : Hid _ := hg
      clear hg
      obtain ⟨n, hn⟩ : ∃ n, n = (symsTo (cnt cs) i).length := ⟨_, rfl⟩
      rw [← hn] at hni ⊢
      have Hn : Hid _ := hn
      clear hn
      by_cases hlt : i < len0
      · obtain ⟨_, _, e, -, hcA⟩ := Hrc.out
        rw [length_row, Hcl.out] at hcA
        obtain ⟨ba, oa, rfl, hcellA⟩ := hcA (by omega)
        simp only [Value.slice.injEq] at e
        obtain ⟨rfl, -, rfl⟩ := e
        have ca0 := hcellA i _ (row_get .i64 cs i (by rw [Hcl.out]; exact hlt))
        have Hst : Hid ((symsTo (cnt cs) (i + 1)).length = if cs.getD i 0 = 0 then n else n + 1) := by
          show _ = _
          rw [Hn.out, symsTo]
          by_cases h0 : cnt cs i = 0
          · rw [if_pos h0, if_pos (show cs.getD i 0 = 0 from h0)]
          · rw [if_neg h0, if_neg (show ¬ cs.getD i 0 = 0 from h0), (ins_perm _ i _).length_eq]
            rfl
        generalize cs.getD i 0 = c at ca0 Hst
        clear hcellA hcA
        by_cases h0 : c = 0
        · subst h0
          have Hst2 : Hid ((symsTo (cnt cs) (i + 1)).length = n) := by show _ = _; rw [Hst.out, if_pos rfl]
          clear Hst
          go_wp2
          go_roundg (len0 - (i + 1))
          case rel => exact ⟨i + 1, rfl, by omega, by go_num, by rw [Hst2.out], by rw [Hst2.out]; omega, rfl⟩
          case measure => rw [Hg.out]; omega
        · have Hst2 : Hid ((symsTo (cnt cs) (i + 1)).length = n + 1) := by show _ = _; rw [Hst.out, if_neg h0]
          have hc0 : (0 : Int) < (c : Int) := by omega
          clear Hst
          go_wp2
          go_roundg (len0 - (i + 1))
          case rel => exact ⟨i + 1, rfl, by omega, by go_num, by rw [Hst2.out]; go_num, by rw [Hst2.out]; omega, rfl⟩
          case measure => rw [Hg.out]; omega
      · have hil : i = len0 := by omega
        have Hnt : Hid (n = (there cs).length) := by show _ = _; rw [Hn.out, hil, Hth.out]
        clear hil
        go_wp2_with fail
        go_loopg [12] len0 (fun g J wi => ∃ j : Nat, g = len0 - j ∧ j ≤ len0 ∧ J = .int .i64 (j : Int) ∧ Fr wr wi (fun _ => False))
        case atStart => exact ⟨0, rfl, by omega, rfl, Fr.refl _ _⟩
        case round =>
          obtain ⟨j, hg2, hj, rfl, hfj⟩ := hrel
          have Hg2 : Hid _ := hg2
          clear hg2
          by_cases hjl : j < len0
          · obtain ⟨_, _, e, -, hcA⟩ := Hra.out.keep hfj
            rw [length_row, Hl1.out] at hcA
            obtain ⟨ba, oa, rfl, hcellA⟩ := hcA (by omega)
            simp only [Value.slice.injEq] at e
            obtain ⟨rfl, -, rfl⟩ := e
            have ca0 := hcellA j _ (row_get .i64 A j (by rw [Hl1.out]; exact hjl))
            obtain ⟨_, _, e, -, hcB⟩ := Hrc.out.keep hfj
            rw [length_row, Hcl.out] at hcB
            obtain ⟨bb, ob, rfl, hcellB⟩ := hcB (by omega)
            simp only [Value.slice.injEq] at e
            obtain ⟨rfl, -, rfl⟩ := e
            have cb0 := hcellB j _ (row_get .i64 cs j (by rw [Hcl.out]; exact hjl))
            obtain ⟨hpos, hmost⟩ := Hget.out j hjl
            have hba := World.block_lt_of_cell? _ _ ca0
            have hbb := World.block_lt_of_cell? _ _ cb0
            generalize A.getD j 0 = X at ca0 hpos hmost
            generalize cs.getD j 0 = C at cb0 hpos
            have ka : ∀ z, Fr wr.drew z (fun _ => False) → z.cell? ⟨ba, oa + j, none⟩ = some (.int .i64 (X : Int)) := fun z hz => by
              rw [World.cell?_of_block (w := wr) (hz.block ba hba (fun h => h))]; exact ca0
            have kb : ∀ z, Fr wr.drew z (fun _ => False) → z.cell? ⟨bb, ob + j, none⟩ = some (.int .i64 (C : Int)) := fun z hz => by
              rw [World.cell?_of_block (w := wr) (hz.block bb hbb (fun h => h))]; exact cb0
            have hd3 : decide ((X : Int) < 0) = false := decide_eq_false (by omega)
            have hd4 : decide ((L : Int) < (X : Int)) = false := decide_eq_false (by omega)
            have hj1 : (j : Int) < (len0 : Int) := by omega
            have hcase : (X = 0 ∧ C = 0) ∨ (0 < X ∧ 0 < C) := by
              by_cases h : 0 < C
              · exact .inr ⟨hpos.2 h, h⟩
              · exact .inl ⟨by
                  rcases Nat.eq_zero_or_pos X with h1 | h1
                  · exact h1
                  · exact absurd (hpos.1 h1) h, by omega⟩
            clear hpos hcellA hcA hcellB hcB ca0 cb0
            rcases hcase with ⟨rfl, rfl⟩ | ⟨hX, hC⟩
            · clear hd3 hd4
              have hd4 : decide ((L : Int) < 0) = false := decide_eq_false (by omega)
              go_wp2
              refine wp_region_all (fun _ => False) [.c ?_, .c ?_, .c ?_, .c ?_, .c ?_, .c ?_, .c ?_, .c ?_, .c ?_, .c ?_, .c ?_, .c ?_, .c ?_, .c ?_, .c ?_, .c ?_, .c ?_, .c ?_, .c ?_, .c ?_, .c ?_, .c ?_, .c ?_, .c ?_, .c ?_, .c ?_] (by kernel_rfl) (by kernel_rfl) rfl ?last ?walk
              case last => repeat (first | exact Lasts.nil | refine Lasts.c ?_ | refine Lasts.b (fun v w w' hf h => Reads.keep h hf) ?_)
              case walk =>
                repeat (refine wpAll_take rfl rfl (fun x hx => ?_) ?_; (focus (go_simp; with_reducible rfl)); simp only [Act.put, List.setIfInBounds_toArray, List.set_cons_zero, List.set_cons_succ])
                refine wpAll_nil (fun wx hfx _ => ?_)
                replace hfx := hfj.drew.none hfx
                go_wp2
                go_roundg (len0 - (j + 1))
                case rel => exact ⟨j + 1, rfl, by omega, by go_num, hfx⟩
                case measure => rw [Hg2.out]; omega
            · have hd1 : decide ((0 : Int) < (X : Int)) = true := decide_eq_true (by omega)
              have hd2 : decide ((0 : Int) < (C : Int)) = true := decide_eq_true (by omega)
              have hX1 : (0 : Int) < (X : Int) := by omega
              have hC1 : (0 : Int) < (C : Int) := by omega
              go_wp2
              refine wp_region_all (fun _ => False) [.c ?_, .c ?_, .c ?_, .c ?_, .c ?_, .c ?_, .c ?_, .c ?_, .c ?_, .c ?_, .c ?_, .c ?_, .c ?_, .c ?_, .c ?_, .c ?_, .c ?_, .c ?_, .c ?_, .c ?_, .c ?_, .c ?_, .c ?_, .c ?_, .c ?_, .c ?_] (by kernel_rfl) (by kernel_rfl) rfl ?last ?walk
              case last => repeat (first | exact Lasts.nil | refine Lasts.c ?_ | refine Lasts.b (fun v w w' hf h => Reads.keep h hf) ?_)
              case walk =>
                repeat (refine wpAll_take rfl rfl (fun x hx => ?_) ?_; (focus (go_simp; with_reducible rfl)); simp only [Act.put, List.setIfInBounds_toArray, List.set_cons_zero, List.set_cons_succ])
                refine wpAll_nil (fun wx hfx _ => ?_)
                replace hfx := hfj.drew.none hfx
                go_wp2
                go_roundg (len0 - (j + 1))
                case rel => exact ⟨j + 1, rfl, by omega, by go_num, hfx⟩
                case measure => rw [Hg2.out]; omega
          · by_cases hn2 : n < 2
            · go_wp2
              go_ret
              exact ⟨rfl, (hf3.none hfj).below (Nat.le_refl _) (fun k h => h.elim)⟩
            · have hkA := Hkr.out (by rw [← Hnt.out]; omega)
              go_wp2_with fail
              refine (M.kraft _ _ _ (Hra.out.keep hfj).z (by rw [List.length_map, Hl1.out]; omega) (fun z hz => by
                obtain ⟨l, hl, rfl⟩ := List.mem_map.1 hz
                have := Hsm.out l hl
                omega)).mono ?_
              rw [kraftZ_nat, hkA]
              rintro e w9 ⟨rfl, hf9⟩
              replace hf9 := (hf3.none hfj).none hf9
              go_wp2
              go_ret
              exact ⟨rfl, hf9.below (Nat.le_refl _) (fun k h => h.elim)⟩

end Go.Proofs.Ytjjanlpkhoeejaa.mergeFull
