/-
  The walk of the law MergeTight, under the condition that merge's functions answer as their contracts say.
-/
import Derived.Test.YtjjanlpkhoeejaaRows
import Derived.Test.YtjjanlpkhoeejaaMHelp
namespace Go.Proofs.Ytjjanlpkhoeejaa.mergeTight
open Go.ChangeShapes Go.WideShapes Go.ChangeAt Go.RowKit

set_option maxRecDepth 4000 in
set_option maxHeartbeats 1600000 in
theorem walkM (M : MC) (a0 : Option Addr) (len0 cap0 : Nat) (z0 : List Int) (a1 : Int) (a2 : Int) (w : World) (w0 : IsRow .u16 w a0 len0 cap0 z0) (w1 : (Lit.int .u8 a1).wf = true) (w2 : (Lit.int .u8 a2).wf = true) :
    Calls Try.prog 8 #[.slice a0 len0 cap0, .int .u8 a1, .int .u8 a2] w fun e w' => e = .returned (.bool true) ∧ Below w.heap.size w w' := by
  obtain ⟨xs, hxl, hxx, hrd, -⟩ := reads_isRow small_u16 (by decide) w0
  have hxs : ∀ x ∈ xs, x < 65536 := fun x hx => by
    obtain ⟨j, hj⟩ := List.getElem?_of_mem hx
    have := hxx j
    rwa [List.getD_eq_getElem?_getD, hj] at this
  obtain ⟨hb1, hb1'⟩ := bounds_u8 w1
  obtain ⟨hb2, hb2'⟩ := bounds_u8 w2
  obtain ⟨k, rfl⟩ := Int.eq_ofNat_of_zero_le hb1
  obtain ⟨m, rfl⟩ := Int.eq_ofNat_of_zero_le hb2
  have Hrd : Hid (Reads .u16 w (.slice a0 len0 cap0) xs) := hrd
  have Hxs : Hid _ := hxs
  have Hxl : Hid _ := hxl
  clear w0 w1 w2 hrd hxs hxx hb1 hb2 hxl
  go_enter Try.func8, Try.ntmps8
  go_wp2_with fail
  refine (known_any M w).mono ?_
  rintro e w1 ⟨rfl, hf1⟩
  by_cases hbig : 40 < len0
  · go_wp2
    go_ret
    exact ⟨rfl, hf1.below (Nat.le_refl _) (fun k h => h.elim)⟩
  · go_wp2_with fail
    refine (counts_any _ xs k w1 (Hrd.out.keep hf1) Hxs.out (by omega) (by rw [Hxl.out]; omega)).mono ?_
    rintro e w2 ⟨sc, rfl, hoc, hf2, -⟩
    replace hf2 := hf1.none hf2
    have hcl : (xs.map (madeOf k)).length = len0 := by rw [List.length_map, Hxl.out]
    have hcb : ∀ c ∈ xs.map (madeOf k), c ≤ 1099511627776 := fun c hc => by
      obtain ⟨x, hx, rfl⟩ := List.mem_map.1 hc
      have := madeOf_le k x (Hxs.out x hx)
      omega
    generalize xs.map (madeOf k) = cs at hoc hcl hcb
    have hrc := hoc.reads
    obtain ⟨ac, cc, rfl, hcc, -⟩ := id hrc
    rw [length_row, hcl] at hrc hcc ⊢
    have Hcl : Hid _ := hcl
    have Hcb : Hid _ := hcb
    obtain ⟨L, hL⟩ : ∃ L, L = m % 9 + 6 := ⟨_, rfl⟩
    have hLe : (m : Int) % 9 + 6 = (L : Int) := by omega
    have hL6 : 6 ≤ L := by omega
    have hL14 : L ≤ 14 := by omega
    have hpow : 64 ≤ 2 ^ L := Nat.le_trans (by decide) (Nat.pow_le_pow_right (by omega) hL6)
    have hpow1 : 64 ≤ 2 ^ (L + 1) := Nat.le_trans (by decide) (Nat.pow_le_pow_right (by omega) (by omega : 6 ≤ L + 1))
    have hth : (there cs).length ≤ 40 := by have := there_le cs; omega
    have Hl1 : Hid _ := len_pmLens (counts := cs) (L := L) (by omega) (by omega)
    have Hl2 : Hid _ := len_pmLens (counts := cs) (L := L + 1) (by omega) (by omega)
    have Hs1 : Hid _ := lens_small (cs := cs) (L := L) (by omega) (by omega) (by omega)
    have Hs2 : Hid _ := lens_small (cs := cs) (L := L + 1) (by omega) (by omega) (by omega)
    have Hct : Hid (costZ (zs cs) (pmLens cs (L + 1)) ≤ costZ (zs cs) (pmLens cs L)) := by
      show _ ≤ _
      rw [cost_pm hcb (by omega) (by omega), cost_pm hcb (by omega) (by omega)]
      exact cost_tight (by omega) (by omega)
    have Hb1 : Hid (costZ (zs cs) (pmLens cs L) ≤ 69269232549888 * 40) := by
      show _ ≤ _
      have := costZ_le (zs cs) (pmLens cs L) (fun l hl => by have := Hs1.out l hl; omega)
      rw [zs_length, hcl] at this
      omega
    clear hL hoc hf1 hcl hcb hth hpow hpow1
    go_wp2_with fail
    have hcm : clampM (L : Int) = L := by unfold clampM; omega
    have hcm1 : clampM ((L : Int) + 1) = L + 1 := by unfold clampM; omega
    have Hzc : Hid _ := zs_clamp cs Hcb.out
    have HcL : Hid (∀ x, ReadsZ x (.slice ac len0 cc) (zs cs) → Calls Try.prog 12 #[.slice ac len0 cc, .int .i64 (L : Int)] x fun e w' => ∃ sv, e = .returned sv ∧ Reads .i64 w' sv (pmLens cs L) ∧ Fr x w' (fun _ => False)) := fun x hx => by
      have := M.lens _ _ (L : Int) x hx (by rw [zs_length, Hcl.out]; omega) (zs_in64 cs Hcb.out) (by omega) (by omega)
      rwa [Hzc.out, hcm] at this
    have HcL1 : Hid (∀ x, ReadsZ x (.slice ac len0 cc) (zs cs) → Calls Try.prog 12 #[.slice ac len0 cc, .int .i64 ((L : Int) + 1)] x fun e w' => ∃ sv, e = .returned sv ∧ Reads .i64 w' sv (pmLens cs (L + 1)) ∧ Fr x w' (fun _ => False)) := fun x hx => by
      have := M.lens _ _ ((L : Int) + 1) x hx (by rw [zs_length, Hcl.out]; omega) (zs_in64 cs Hcb.out) (by omega) (by omega)
      rwa [Hzc.out, hcm1] at this
    have Hz2 : Hid (ReadsZ w2 (.slice ac len0 cc) (zs cs)) := hrc.z
    have Hzin : Hid _ := zs_in64 cs Hcb.out
    have Hzl : Hid ((zs cs).length ≤ 1000) := by show _ ≤ _; rw [zs_length, Hcl.out]; omega
    rw [Hcl.out] at Hl1 Hl2
    generalize pmLens cs L = A at HcL Hl1 Hs1 Hct Hb1
    generalize pmLens cs (L + 1) = B at HcL1 Hl2 Hs2 Hct
    generalize zs cs = Z at *
    clear hcm hcm1 hrc
    refine (HcL.out w2 Hz2.out).mono ?_
    rintro e w3 ⟨sa, rfl, hra, hf3⟩
    obtain ⟨aa, ca, rfl, hca, -⟩ := id hra
    rw [length_row, Hl1.out] at hra hca ⊢
    have Hz3 : Hid (ReadsZ w3 (.slice ac len0 cc) Z) := Hz2.out.keep hf3
    replace hf3 := hf2.none hf3
    clear hf2
    go_wp2_with fail
    refine (HcL1.out w3 Hz3.out).mono ?_
    rintro e w4 ⟨sb, rfl, hrb, hf4⟩
    obtain ⟨ab, cb, rfl, hcb2, -⟩ := id hrb
    rw [length_row, Hl2.out] at hrb hcb2 ⊢
    have Hz4 : Hid (ReadsZ w4 (.slice ac len0 cc) Z) := Hz3.out.keep hf4
    have Hra : Hid (Reads .i64 w4 (.slice aa len0 ca) A) := hra.keep hf4
    have Hrb : Hid (Reads .i64 w4 (.slice ab len0 cb) B) := hrb
    replace hf4 := hf3.none hf4
    clear hf3 hra hrb
    go_wp2_with fail
    go_loopg [11] len0 (fun g I wr => ∃ i : Nat, g = len0 - i ∧ i ≤ len0 ∧ I = .int .i64 (i : Int) ∧ wr = w4)
    case atStart => exact ⟨0, rfl, by omega, rfl, rfl⟩
    case round =>
      obtain ⟨i, hg, hi, rfl, rfl⟩ := hrel
      have Hg : Hid _ := hg
      clear hg
      by_cases hlt : i < len0
      · obtain ⟨_, _, e, -, hcA⟩ := Hra.out
        rw [length_row, Hl1.out] at hcA
        obtain ⟨ba, oa, rfl, hcellA⟩ := hcA (by omega)
        simp only [Value.slice.injEq] at e
        obtain ⟨rfl, -, rfl⟩ := e
        have ca0 := hcellA i _ (row_get .i64 A i (by rw [Hl1.out]; exact hlt))
        obtain ⟨_, _, e, -, hcB⟩ := Hrb.out
        rw [length_row, Hl2.out] at hcB
        obtain ⟨bb, ob, rfl, hcellB⟩ := hcB (by omega)
        simp only [Value.slice.injEq] at e
        obtain ⟨rfl, -, rfl⟩ := e
        have cb0 := hcellB i _ (row_get .i64 B i (by rw [Hl2.out]; exact hlt))
        have hax : A.getD i 0 ≤ L := Hs1.out _ (getD_mem (by rw [Hl1.out]; exact hlt))
        have hbx : B.getD i 0 ≤ L + 1 := Hs2.out _ (getD_mem (by rw [Hl2.out]; exact hlt))
        generalize A.getD i 0 = x at ca0 hax
        generalize B.getD i 0 = y at cb0 hbx
        have hd1 : decide ((L : Int) < (x : Int)) = false := decide_eq_false (by omega)
        have hd2 : decide ((L : Int) + 1 < (y : Int)) = false := decide_eq_false (by omega)
        have hn1 : ¬ L < x := by omega
        have hn2 : ¬ (L : Int) + 1 < (y : Int) := by omega
        clear hcellA hcA hcellB hcB
        go_wp2
        go_roundg (len0 - (i + 1))
        case rel => exact ⟨i + 1, rfl, by omega, by go_num, rfl⟩
        case measure => rw [Hg.out]; omega
      · go_wp2_with fail
        refine (M.cost _ _ Z A _ Hz4.out Hra.out Hzl.out Hzin.out (fun l hl => by have := Hs1.out l hl; omega)).mono ?_
        rintro e w5 ⟨rfl, hf5⟩
        have Hz5 : Hid (ReadsZ w5 (.slice ac len0 cc) Z) := Hz4.out.keep hf5
        have Hrb5 : Hid (Reads .i64 w5 (.slice ab len0 cb) B) := Hrb.out.keep hf5
        replace hf5 := hf4.none hf5
        go_wp2_with fail
        refine (M.cost _ _ Z B _ Hz5.out Hrb5.out Hzl.out Hzin.out (fun l hl => by have := Hs2.out l hl; omega)).mono ?_
        rintro e w6 ⟨rfl, hf6⟩
        replace hf6 := hf5.none hf6
        have hct := Hct.out
        have hb1 := Hb1.out
        generalize costZ Z A = P at hct hb1
        generalize costZ Z B = R at hct
        go_wp2
        go_ret
        exact ⟨rfl, hf6.below (Nat.le_refl _) (fun k h => h.elim)⟩

end Go.Proofs.Ytjjanlpkhoeejaa.mergeTight
