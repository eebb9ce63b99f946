/-
  The walk of the law BitsParts: called with whatever arguments, it returns true and touches nothing that was there. No condition.
-/
import Derived.Test.YtjojjfnbnhfdgaaRows
import Derived.Test.YtjojjfnbnhfdgaaArgs
import Derived.Test.YtjojjfnbnhfdgaaStr
import Derived.Test.YtjojjfnbnhfdgaaLex
namespace Go.Proofs.Ytjojjfnbnhfdgaa.bitsParts
open Go.ChangeShapes Go.WideShapes Go.ChangeAt Go.RowKit

set_option maxHeartbeats 3200000 in
theorem walk (a0 : Int) (a1 : Option Addr) (len1 cap1 : Nat) (z1 : List Int) (w : World) (w0 : (Lit.int .u64 a0).wf = true) (w1 : IsRow .u8 w a1 len1 cap1 z1) :
    Calls Try.prog 7 #[.int .u64 a0, .slice a1 len1 cap1] w fun e w' => e = .returned (.bool true) ∧ Below w.heap.size w w' := by
  obtain ⟨bs, hbl, hbs, hr, hblk⟩ := reads_isRow w1
  have hv := bounds_u64 w0
  obtain ⟨v, rfl⟩ := Int.eq_ofNat_of_zero_le hv.1
  have hv2 : v < 18446744073709551616 := by omega
  clear hv w0
  go_enter Try.func7, Try.ntmps7
  go_wp2_with fail
  refine (known_any w).mono ?_
  rintro e wa ⟨rfl, hf1⟩
  by_cases hlen : 20 < len1
  · go_wp2
    go_ret
    exact ⟨rfl, hf1.below (Nat.le_refl _) (fun _ h => h.elim)⟩
  · have hd20 : decide (20 < (len1 : Int)) = false := by simp; omega
    have Hr : Hid (Reads w (.slice a1 len1 cap1) bs) := hr
    clear hr
    go_wp2_with fail
    refine (newWriter_any wa).mono ?_
    rintro e wb ⟨rfl, hwp, hf2⟩
    obtain ⟨p, hp⟩ : ∃ p, p = wa.heap.size := ⟨_, rfl⟩
    rw [← hp] at hwp ⊢
    have hnp : Newer w.heap.size p (.slice none 0 0) := by
      intro k hk
      rcases hk with rfl | hk
      · have := hf1.size; omega
      · simp [Value.ownBlock] at hk
    clear hp
    replace hf2 := hf1.none hf2
    clear hf1
    go_wp2_with fail
    refine (newWriter_any wb).mono ?_
    rintro e wc ⟨rfl, hwq, hf3⟩
    have hlt := hwp.lt
    replace hwp := hwp.frame hf3 (fun _ _ h => h)
    obtain ⟨q, hq⟩ : ∃ q, q = wb.heap.size := ⟨_, rfl⟩
    rw [← hq] at hwq ⊢
    have hnq : Newer wb.heap.size q (.slice none 0 0) := by
      intro k hk
      rcases hk with rfl | hk
      · omega
      · simp [Value.ownBlock] at hk
    have hap := Apart.newer hlt hnq
    replace hnq := hnq.mono hf2.size
    clear hq hlt
    replace hf3 := hf2.none hf3
    clear hf2
    go_wp2_with fail
    refine (put_any p _ _ v 64 wc hwp (by simp) hv2).mono ?_
    rintro e wd ⟨rfl, svp, hwp', hf4, hm4⟩
    have hap2 : Apart q (.slice none 0 0) p svp := hap.symm.moved hm4 hwq.lt
    replace hwq := hwq.frame hf4 hap.symm
    have hnp2 := hnp.moved hm4 hf3.size
    replace hf4 := hf3.newer hf4 hnp
    clear hf3 hap hnp hwp hm4
    rw [List.nil_append, show wide 64 = 64 from rfl] at hwp'
    go_wp2_with fail
    go_loopw [7, 8] (fun L I wr => ∃ (i left : Nat) (svq : Value) (l' : List Bool), i ≤ len1 ∧ left ≤ 64 ∧ I = .int .i64 (i : Int) ∧ L = .int .i64 (left : Int) ∧ Wr wr p svp (putBits v 64) ∧ Wr wr q svq l' ∧
        l' ++ putBits v left = putBits v 64 ∧ Apart q svq p svp ∧ Newer w.heap.size q svq ∧ Fr w wr (fun _ => False)) (fun _ I _ => len1 - (intOf I).toNat)
    case atStart => exact ⟨0, 64, _, [], Nat.zero_le _, Nat.le_refl _, rfl, rfl, hwp', hwq, rfl, hap2, hnq, hf4⟩
    case round =>
      clear hwp' hwq hap2 hnq hf4
      obtain ⟨i, left, svq, l', hi, hl, rfl, rfl, hwp, hwq, hle, hap, hnq, hfr⟩ := hrel
      have Hle : Hid (l' ++ putBits v left = putBits v 64) := hle
      have hll : l'.length + left = 64 := by have := congrArg List.length hle; simpa [length_putBits] using this
      clear hle
      by_cases hgo : i < len1 ∧ 0 < left
      · obtain ⟨hgo1, hgo2⟩ := hgo
        have hrr := Hr.out.frame hfr (fun _ _ h => h)
        obtain ⟨ao, cap, hsl, hcel⟩ := hrr
        obtain ⟨b, off, rfl, hcell⟩ := hcel (by omega)
        have cg := hcell i _ (row_get bs i (by omega))
        simp only [Value.slice.injEq] at hsl
        obtain ⟨rfl, -, rfl⟩ := hsl
        have hx := hbs i
        generalize bs.getD i 0 = x at cg hx
        clear hcel hcell
        by_cases hn1 : left < x % 16
        · go_wp2_with fail
          refine (put_any q svq l' v (left : Int) wr hwq (by omega) hv2).mono ?_
          rintro e wx ⟨rfl, svq', hwq', hfx, hmx⟩
          have hap' : Apart q svq' p svp := (hap.symm.moved hmx hwp.lt).symm
          replace hwp := hwp.frame hfx hap.symm
          have hnq' := hnq.moved hmx hfr.size
          replace hfx := hfr.newer hfx hnq
          rw [show wide (left : Int) = left by unfold wide; omega, Hle.out] at hwq'
          go_wp2
          go_roundw
          case rel => exact ⟨i + 1, 0, svq', _, by omega, by omega, by go_num, rfl, hwp, hwq', by simp [putBits], hap', hnq', hfx⟩
          case measure => simp [intOf]; omega
        · obtain ⟨left', hle⟩ : ∃ left', left = left' + x % 16 := ⟨left - x % 16, by omega⟩
          subst hle
          go_wp2_with fail
          rw [show (v : Int) / 2 ^ left' = ((v >>> left' : Nat) : Int) by rw [Nat.shiftRight_eq_div_pow]; simp]
          refine (put_any q svq l' (v >>> left') _ wr hwq (by omega) (Nat.lt_of_le_of_lt (by rw [Nat.shiftRight_eq_div_pow]; exact Nat.div_le_self _ _) hv2)).mono ?_
          rintro e wx ⟨rfl, svq', hwq', hfx, hmx⟩
          have hap' : Apart q svq' p svp := (hap.symm.moved hmx hwp.lt).symm
          replace hwp := hwp.frame hfx hap.symm
          have hnq' := hnq.moved hmx hfr.size
          replace hfx := hfr.newer hfx hnq
          rw [show wide ((x : Int) % 16) = x % 16 by unfold wide; omega] at hwq'
          go_wp2
          go_roundw
          case rel => exact ⟨i + 1, left', svq', _, by omega, by omega, by go_num, rfl, hwp, hwq', by rw [List.append_assoc, ← putBits_split, Hle.out], hap', hnq', hfx⟩
          case measure => simp [intOf]; omega
      · have hst : (¬ i < len1 ∧ decide ((i : Int) < (len1 : Int)) = false ∧ decide (i < len1) = false) ∨ (i < len1 ∧ ¬ 0 < left ∧ decide (0 < (left : Int)) = false ∧ decide (0 < left) = false) := by
          by_cases h : i < len1
          · exact .inr ⟨h, by omega, by simp; omega, by simp; omega⟩
          · exact .inl ⟨by omega, by simp; omega, by simp; omega⟩
        clear hgo
        rcases hst with ⟨hst0, hst1, hst2⟩ | ⟨hst0, hst1, hst2, hst3⟩
        all_goals
          go_wp2_with fail
          refine (put_any q svq l' v (left : Int) wr hwq (by omega) hv2).mono ?_
          rintro e wx ⟨rfl, svq', hwq', hfx, hmx⟩
          have hap' : Apart q svq' p svp := (hap.symm.moved hmx hwp.lt).symm
          have hwp' := hwp.frame hfx hap.symm
          have hnq' := hnq.moved hmx hfr.size
          replace hfx := hfr.newer hfx hnq
          rw [show wide (left : Int) = left by unfold wide; omega, Hle.out] at hwq'
          clear hwp hwq hap hnq hfr hmx
          obtain ⟨L, hL⟩ : ∃ L, L = putBits v 64 := ⟨_, rfl⟩
          have hLl : L.length = 64 := by rw [hL, length_putBits]
          rw [← hL] at hwp' hwq'
          have HL : Hid _ := hL
          clear hL
          go_wp2_with fail
          refine (bytesP_any q svq' L wx hwq' (by omega)).mono ?_
          rintro e wy ⟨v1, rfl, hv1, hwq1, hfy⟩
          replace hwp' := hwp'.frame hfy (fun _ _ h => h)
          replace hfy := hfx.none hfy
          clear hwq' hfx
          have hpl : (pack L).length = 8 := by rw [length_pack, hLl]
          go_wp2_with fail
          refine (newReader_any v1 (pack L) wy hv1.reads (by omega) (packs_pack L).small).mono ?_
          rintro e wz ⟨r, svr, rfl, hrd, hfz, hnr⟩
          have hapr : Apart q svq' r svr := Apart.newer hwq1.lt hnr
          have hapr2 : Apart p svp r svr := Apart.newer hwp'.lt hnr
          replace hwp' := hwp'.frame hfz (fun _ _ h => h)
          replace hwq1 := hwq1.frame hfz (fun _ _ h => h)
          have hnr' : w.heap.size ≤ r := by have := hnr r (.inl rfl); have := hfy.size; omega
          replace hfz := hfy.none hfz
          clear hfy hv1 hnr
          go_wp2_with fail
          refine (take_yes r svr (pack L) 0 64 wz hrd (by rw [hpl]; decide)).mono ?_
          rintro e wu ⟨rfl, hru, hfu⟩
          replace hwp' := hwp'.frame hfu (fun k h1 h2 => hapr2 k h1 (.inl h2))
          replace hwq1 := hwq1.frame hfu (fun k h1 h2 => hapr k h1 (.inl h2))
          replace hfu := hfz.newer1 hfu hnr'
          clear hfz hrd
          have hnum : num (List.take (wide 64) (List.drop 0 (unpack (pack L)))) = v := by
            rw [(packs_pack L).unpack, hpl, hLl, show wide 64 = 64 from rfl]
            simp only [List.drop_zero]
            rw [List.take_append_of_le_length (by omega), List.take_of_length_le (by omega), HL.out, num_putBits]
            exact Nat.mod_eq_of_lt hv2
          rw [hnum]
          have Hpl : Hid _ := hpl
          have hru' : Rd 60 wu r svr (pack L) 64 := hru
          clear hnum hpl hru
          go_wp2
          refine wp_region_lex (fun _ => False) [1, 4, 17, 22] [0, 3, 1, 2, 4, 5, 6, 7, 8, 9, 10, 11, 12, 13, 14, 15, 16, 17, 18, 19, 20, 21, 22, 23, 24, 25] (by kernel_rfl) (by kernel_rfl) rfl (by kernel_rfl) ?_
          repeat (refine wpLex_take (v := ?_) rfl rfl rfl (fun x hx => ?_) ?_; rotate_left; (focus (go_simp; with_reducible rfl)); simp only [Act.put, List.setIfInBounds_toArray, List.set_cons_zero, List.set_cons_succ])
          refine wpLex_step rfl rfl rfl (fun K hK => ?_)
          go_simp
          refine (bytesP_any p svp L _ hwp'.drew (by omega)).mono ?_
          rintro e wA ⟨vA, rfl, hvA, hwpA, hfA⟩
          have hcA : ∀ x, Fr wA x (fun _ => False) → (convert 35 9 vA).run Try.prog x = .ok (.string (strOf (pack L))) x := fun x hx => conv_reads (hvA.reads.frame hx (fun _ _ h => h))
          refine hK _ _ hfA ?_
          clear hK K
          repeat (refine wpLex_take (v := ?_) rfl rfl rfl (fun x hx => ?_) ?_; rotate_left; (focus (go_simp; with_reducible rfl)); simp only [Act.put, List.setIfInBounds_toArray, List.set_cons_zero, List.set_cons_succ])
          refine wpLex_step rfl rfl rfl (fun K hK => ?_)
          go_simp
          refine (bytesP_any q svq' L _ (hwq1.drew.frame hfA (fun _ _ h => h)) (by omega)).mono ?_
          rintro e wB ⟨vB, rfl, hvB, hwqB, hfB⟩
          clear hcA
          have hcB : ∀ x, Fr wB x (fun _ => False) → (convert 35 9 vB).run Try.prog x = .ok (.string (strOf (pack L))) x := fun x hx => conv_reads (hvB.reads.frame hx (fun _ _ h => h))
          refine hK _ _ hfB ?_
          clear hK K
          repeat (refine wpLex_take (v := ?_) rfl rfl rfl (fun x hx => ?_) ?_; rotate_left; (focus (go_simp; with_reducible rfl)); simp only [Act.put, List.setIfInBounds_toArray, List.set_cons_zero, List.set_cons_succ])
          refine wpLex_step rfl rfl rfl (fun K hK => ?_)
          go_simp
          refine (left_fr r svr (pack L) 64 _ ((hru'.drew.frame hfA (fun _ _ h => h)).frame hfB (fun _ _ h => h))).mono ?_
          rw [Hpl.out]
          rintro e wC ⟨rfl, hrC, hfC⟩
          clear hcB
          refine hK _ _ hfC ?_
          clear hK K
          repeat (refine wpLex_take (v := ?_) rfl rfl rfl (fun x hx => ?_) ?_; rotate_left; (focus (go_simp; with_reducible rfl)); simp only [Act.put, List.setIfInBounds_toArray, List.set_cons_zero, List.set_cons_succ])
          refine wpLex_step rfl rfl rfl (fun K hK => ?_)
          go_simp
          refine (len_any q svq' L _ (hwqB.frame hfC (fun _ _ h => h))).mono ?_
          rw [hLl]
          rintro e wD ⟨rfl, rfl⟩
          refine hK _ _ (Fr.refl _ _) ?_
          clear hK K
          repeat (refine wpLex_take (v := ?_) rfl rfl rfl (fun x hx => ?_) ?_; rotate_left; (focus (go_simp; with_reducible rfl)); simp only [Act.put, List.setIfInBounds_toArray, List.set_cons_zero, List.set_cons_succ])
          refine wpLex_nil ?_
          go_wp2
          go_ret
          exact ⟨rfl, ((((hfu.drew.none hfA).none hfB).none hfC)).below (Nat.le_refl _) (fun _ h => h.elim)⟩

end Go.Proofs.Ytjojjfnbnhfdgaa.bitsParts
