/-
  The walk of the law BitsWrite: called with whatever arguments, it returns true and touches nothing that was there. No condition.
-/
import Derived.Test.YtjojjfnbnhfdgaaRows
import Derived.Test.YtjojjfnbnhfdgaaArgs
import Derived.Test.YtjojjfnbnhfdgaaActs
import Derived.Test.YtjojjfnbnhfdgaaRefBytes
namespace Go.Proofs.Ytjojjfnbnhfdgaa.bitsWrite
open Go.ChangeShapes Go.WideShapes Go.ChangeAt Go.RowKit

set_option maxHeartbeats 3200000 in
theorem walk (a0 : Option Addr) (len0 cap0 : Nat) (V : Nat → Nat) (M : Nat → Int) (w : World) (w0 : IsActs w a0 len0 V M) :
    Calls Try.prog 3 #[.slice a0 len0 cap0] w fun e w' => e = .returned (.bool true) ∧ Below w.heap.size w w' := by
  go_enter Try.func3, Try.ntmps3
  go_wp2_with fail
  refine (known_any w).mono ?_
  rintro e wa ⟨rfl, hf1⟩
  by_cases hlen : 40 < len0
  · go_wp2
    go_ret
    exact ⟨rfl, hf1.below (Nat.le_refl _) (fun _ h => h.elim)⟩
  · have hd40 : decide (40 < (len0 : Int)) = false := decide_eq_false (by omega)
    have Hw0 : Hid (IsActs w a0 len0 V M) := w0
    clear w0
    go_wp2_with fail
    refine (newWriter_any wa).mono ?_
    rintro e wb ⟨rfl, hwp, hf2⟩
    obtain ⟨p, hp⟩ : ∃ p, p = wa.heap.size := ⟨_, rfl⟩
    rw [← hp] at hwp ⊢
    have hnp : Newer w.heap.size p (.slice none 0 0) := by
      intro k hk
      rcases hk with rfl | hk
      · have := hf1.size; omega
      · simp [Value.ownBlock] at hk
    clear hp
    replace hf2 := hf1.none hf2
    clear hf1
    go_wp2_with fail
    have hwq : RefWr (wb.alloc (.cells #[.slice none 0 0] 29)) wb.heap.size (.slice none 0 0) [] := ⟨heap_alloc_new wb _, World.ownsRow_nil _ _ _ _⟩
    have hnq : Newer wb.heap.size wb.heap.size (.slice none 0 0) := by
      intro k hk
      rcases hk with rfl | hk
      · omega
      · simp [Value.ownBlock] at hk
    have hap := Apart.newer hwp.lt hnq
    replace hnq := hnq.mono hf2.size
    replace hwp := hwp.frame ((Fr.refl wb (fun _ => False)).alloc (.cells #[.slice none 0 0] 29)) (fun _ _ h => h)
    have hf3 := hf2.alloc (.cells #[.slice none 0 0] 29)
    generalize wb.alloc (.cells #[.slice none 0 0] 29) = wc at *
    generalize wb.heap.size = q at *
    clear hf2
    go_loopw [5] (fun I wr => ∃ (i : Nat) (l : List Bool) (svp svq : Value), i ≤ len0 ∧ I = .int .i64 (i : Int) ∧ l.length ≤ 64 * i ∧ Wr wr p svp l ∧ RefWr wr q svq l ∧ Apart p svp q svq ∧ Newer w.heap.size p svp ∧ Newer w.heap.size q svq ∧ Fr w wr (fun _ => False)) (fun I _ => len0 - (intOf I).toNat)
    case atStart => exact ⟨0, [], _, _, Nat.zero_le _, rfl, by simp, hwp, hwq, hap, hnp, hnq, hf3⟩
    case round =>
      clear hwp hwq hap hnp hnq hf3
      obtain ⟨i, l, svp, svq, hi, rfl, hll, hwp, hwq, hap, hnp, hnq, hfr⟩ := hrel
      by_cases hlt : i < len0
      · obtain ⟨b, off, rfl, cz, cn, hv⟩ : ∃ b off, a0 = some ⟨b, off, none⟩ ∧ (∀ wx, Fr w wx (fun _ => False) → wx.cell? ⟨b, off + i * 2, none⟩ = some (.int .u64 (V i : Int))) ∧ (∀ wx, Fr w wx (fun _ => False) → wx.cell? ⟨b, off + i * 2 + 1, none⟩ = some (.int .i64 (M i))) ∧ V i < 18446744073709551616 := by
          obtain ⟨b, off, rfl, hc⟩ := Hw0.out (by omega)
          obtain ⟨h1, h2, h3⟩ := hc i hlt
          exact ⟨b, off, rfl, fun wx hx => by rw [World.cell?_of_block (w := w) (hx.block _ (World.block_lt_of_cell? _ _ h1) (fun h => h))]; exact h1, fun wx hx => by rw [World.cell?_of_block (w := w) (hx.block _ (World.block_lt_of_cell? _ _ h2) (fun h => h))]; exact h2, h3⟩
        have cn1 := cn _ hfr
        have cz1 := cz _ hfr
        have Hcz : Hid _ := cz
        clear cz cn
        have ii : (i : Int) < (len0 : Int) := by omega
        by_cases h3 : 0 < i % 3
        all_goals
          go_wp2_with fail
          refine (put_any p svp l (V i) _ wr hwp (by omega) hv).mono ?_
          rintro e wd ⟨rfl, svp', hwp', hfd, hmd⟩
          have hap' : Apart q svq p svp' := hap.symm.moved hmd hwq.lt
          replace hwq := hwq.frame hfd hap.symm
          have hnp' := hnp.moved hmd hfr.size
          replace hfd := hfr.newer hfd hnp
          have cz2 := Hcz.out _ hfd
          clear hwp hap hnp hmd hfr cn1 cz1
          go_wp2_with fail
          refine (refPut_any q svq l (V i) _ wd hwq (by omega) hv).mono ?_
          rintro e we ⟨rfl, svq', hwq', hfe, hme⟩
          have hap2 : Apart p svp' q svq' := hap'.symm.moved hme hwp'.lt
          replace hwp' := hwp'.frame hfe hap'.symm
          have hnq' := hnq.moved hme hfd.size
          replace hfe := hfd.newer hfe hnq
          clear hwq hap' hnq hme hfd cz2
          generalize hl2 : l ++ putBits (V i) _ = l2 at hwp' hwq'
          have hl3 : l2.length ≤ 64 * (i + 1) := by
            rw [← hl2, List.length_append, length_putBits]
            have := wide_le (bits .and .i64 (M i) 31)
            have := wide_le (M i)
            omega
          clear hl2
          obtain ⟨ao, cp, rfl⟩ : ∃ ao cp, svq' = .slice ao l2.length cp := by
            rcases hwq'.2.2 with ⟨rfl, h0⟩ | ⟨g, cp, cur, rfl, _⟩
            · exact ⟨none, 0, by rw [h0]⟩
            · exact ⟨some ⟨g, 0, none⟩, cp, rfl⟩
          have cq := cell_of_one hwq'.1
          go_wp2
          refine wp_region_still_lit (by kernel_rfl) (by kernel_rfl) ?_
          still_step
          still_call (len_any p svp' l2 _ hwp'.drew)
          repeat still_step
          refine wpStill_nil ?_
          clear cq
          go_wp2
          go_roundw
          case rel => exact ⟨i + 1, l2, _, _, by omega, by go_num, hl3, hwp'.drew, hwq'.drew, hap2, hnp', hnq', hfe.drew⟩
          case measure => simp [intOf]; omega
      · go_wp2
        refine wp_region_lex (fun _ => False) [1, 4] [0, 3, 1, 2, 4, 5, 6, 7] (by kernel_rfl) (by kernel_rfl) rfl (by kernel_rfl) ?_
        repeat (refine wpLex_take (v := ?_) rfl rfl rfl (fun x hx => ?_) ?_; rotate_left; (focus (go_simp; with_reducible rfl)); simp only [Act.put, List.setIfInBounds_toArray, List.set_cons_zero, List.set_cons_succ])
        refine wpLex_step rfl rfl rfl (fun K hK => ?_)
        go_simp
        refine (bytesP_any p svp l _ hwp.drew (by omega)).mono ?_
        rintro e wA ⟨vA, rfl, hvA, hwpA, hfA⟩
        have hcA : ∀ x, Fr wA x (fun _ => False) → (convert 35 9 vA).run Try.prog x = .ok (.string (strOf (pack l))) x := fun x hx => conv_reads (hvA.reads.frame hx (fun _ _ h => h))
        refine hK _ _ hfA ?_
        clear hK K
        repeat (refine wpLex_take (v := ?_) rfl rfl rfl (fun x hx => ?_) ?_; rotate_left; (focus (go_simp; with_reducible rfl)); simp only [Act.put, List.setIfInBounds_toArray, List.set_cons_zero, List.set_cons_succ])
        refine wpLex_step rfl rfl rfl (fun K hK => ?_)
        go_simp
        refine (refBytes_any q svq l _ (hwq.drew.frame hfA (fun _ _ h => h)) (by omega)).mono ?_
        rintro e wB ⟨vB, rfl, hvB, hwqB, hfB⟩
        clear hcA
        have hcB : ∀ x, Fr wB x (fun _ => False) → (convert 35 9 vB).run Try.prog x = .ok (.string (strOf (pack l))) x := fun x hx => conv_reads (hvB.reads.frame hx (fun _ _ h => h))
        refine hK _ _ hfB ?_
        clear hK K
        repeat (refine wpLex_take (v := ?_) rfl rfl rfl (fun x hx => ?_) ?_; rotate_left; (focus (go_simp; with_reducible rfl)); simp only [Act.put, List.setIfInBounds_toArray, List.set_cons_zero, List.set_cons_succ])
        refine wpLex_nil ?_
        go_wp2
        go_ret
        exact ⟨rfl, ((hfr.drew.none hfA).none hfB).below (Nat.le_refl _) (fun _ h => h.elim)⟩

end Go.Proofs.Ytjojjfnbnhfdgaa.bitsWrite
