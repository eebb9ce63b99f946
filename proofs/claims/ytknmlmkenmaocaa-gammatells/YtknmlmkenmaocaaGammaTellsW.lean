/-
  The walk of the law GammaTells: called with whatever arguments, it returns true and touches nothing that was there. No condition.
-/
import Derived.Test.YtknmlmkenmaocaaRows
import Derived.Test.YtknmlmkenmaocaaKnown
import Derived.Test.YtknmlmkenmaocaaGRefPut
import Derived.Test.YtknmlmkenmaocaaGRefTake
import Derived.Test.YtknmlmkenmaocaaBRefBytes
import Derived.Test.YtknmlmkenmaocaaLex
import Derived.Deep.RegionHeld3
import Derived.StillTailTactics
namespace Go.Proofs.Ytknmlmkenmaocaa.gammaTells
open Go.ChangeShapes Go.WideShapes Go.ChangeAt Go.RowKit

/-- A slice that can be read lies in memory that is there. -/
theorem rds_lt {w : World} {v : Value} {bs : List Nat} (h : Rds w v bs) (h0 : 0 < bs.length) : ∀ k, v.ownBlock = some k → k < w.heap.size := by
  intro k hk
  obtain ⟨ao, cap, rfl, hc⟩ := h
  obtain ⟨b, off, rfl, hcell⟩ := hc h0
  simp [Value.ownBlock] at hk
  subst hk
  exact World.block_lt_of_cell? _ _ (hcell 0 _ (row_get .u8 bs 0 h0))
theorem rd_new {T : TypeId} {w : World} {v : Value} {bs : List Nat} (h : Rds w v bs) (hl : bs.length ≤ 1000) (hs : ∀ j, bs.getD j 0 < 256) : Rd T (w.alloc (.cells #[v, .int .i64 0] T)) w.heap.size v bs 0 := by
  refine ⟨heap_alloc_new w _, h.frame ((Fr.refl w (fun _ => False)).alloc _) (fun _ _ h => h), by omega, by omega, hs, fun h0 e => ?_⟩
  have := rds_lt h h0 _ e
  omega
theorem shr_le (a s : Nat) : ∃ X : Nat, (a : Int) / 2 ^ s = (X : Int) ∧ X ≤ a := ⟨a / 2 ^ s, by simp, Nat.div_le_self _ _⟩

set_option maxRecDepth 4000 in
set_option maxHeartbeats 1600000 in
theorem walk (a0 : Option Addr) (len0 cap0 : Nat) (z0 : List Int) (a1 : Option Addr) (len1 cap1 : Nat) (z1 : List Int) (a2 : Int) (w : World) (w0 : IsRow .u64 w a0 len0 cap0 z0) (w1 : IsRow .u8 w a1 len1 cap1 z1) (w2 : (Lit.int .u8 a2).wf = true) :
    Calls Try.prog 3 #[.slice a0 len0 cap0, .slice a1 len1 cap1, .int .u8 a2] w fun e w' => e = .returned (.bool true) ∧ Below w.heap.size w w' := by
  obtain ⟨ls, hll, hls, hrl, -⟩ := reads_isRow small_u64 (by decide) w0
  obtain ⟨rs, hrsl, hrs, hrr, -⟩ := reads_isRow small_u8 (by decide) w1
  obtain ⟨hb2, hb2'⟩ := bounds_u8 w2
  obtain ⟨s, rfl⟩ := Int.eq_ofNat_of_zero_le hb2
  clear hb2 w0 w1 w2
  have Hrl : Hid (Reads .u64 w (.slice a0 len0 cap0) ls) := hrl
  have Hll : Hid _ := hll
  have Hls : Hid _ := hls
  have Hrr : Hid (Reads .u8 w (.slice a1 len1 cap1) rs) := hrr
  have Hrsl : Hid _ := hrsl
  have Hrs : Hid _ := hrs
  clear hll hls hrl hrsl hrs hrr
  go_enter Try.func3, Try.ntmps3
  go_wp2_with fail
  refine (known_any w).mono ?_
  rintro e wa ⟨rfl, hf1⟩
  by_cases hlen : 20 < len0
  · go_wp2
    go_ret
    exact ⟨rfl, hf1.below (Nat.le_refl _) (fun _ h => h.elim)⟩
  have hd20 : decide (20 < (len0 : Int)) = false := by simp; omega
  by_cases hlen1 : 60 < len1
  · go_wp2
    go_ret
    exact ⟨rfl, hf1.below (Nat.le_refl _) (fun _ h => h.elim)⟩
  have hd60 : decide (60 < (len1 : Int)) = false := by simp; omega
  go_wp2_with fail
  refine (newWriter_any wa).mono ?_
  rintro e wb ⟨rfl, hwp, hf2⟩
  obtain ⟨p, hp⟩ : ∃ p, p = wa.heap.size := ⟨_, rfl⟩
  rw [← hp] at hwp ⊢
  have hnp : Newer w.heap.size p (.slice none 0 0) := by
    intro k hk
    rcases hk with rfl | hk
    · have := hf1.size; omega
    · simp [Value.ownBlock] at hk
  clear hp
  replace hf2 := hf1.none hf2
  clear hf1
  go_wp2_with fail
  have hwq : RefWr (wb.alloc (.cells #[.slice none 0 0] 30)) wb.heap.size (.slice none 0 0) [] := ⟨heap_alloc_new wb _, World.ownsRow_nil _ _ _ _⟩
  have hnq : Newer wb.heap.size wb.heap.size (.slice none 0 0) := by
    intro k hk
    rcases hk with rfl | hk
    · omega
    · simp [Value.ownBlock] at hk
  have hap := Apart.newer hwp.lt hnq
  replace hnq := hnq.mono hf2.size
  replace hwp := hwp.frame ((Fr.refl wb (fun _ => False)).alloc (.cells #[.slice none 0 0] 30)) (fun _ _ h => h)
  have hf3 := hf2.alloc (.cells #[.slice none 0 0] 30)
  generalize wb.alloc (.cells #[.slice none 0 0] 30) = wc at *
  generalize wb.heap.size = q at *
  clear hf2
  go_loopg [9] len0 (fun g I wr => ∃ (i : Nat) (l : List Bool) (svp svq : Value), i ≤ len0 ∧ g = len0 - i ∧ I = .int .i64 (i : Int) ∧ l.length ≤ 127 * i ∧ Wr wr p svp l ∧ RefWr wr q svq l ∧ Apart p svp q svq ∧ Newer w.heap.size p svp ∧ Newer w.heap.size q svq ∧ Fr w wr (fun _ => False))
  case atStart => exact ⟨0, [], _, _, by omega, by omega, rfl, by simp, hwp, hwq, hap, hnp, hnq, hf3⟩
  case round =>
    clear hwp hwq hap hnp hnq hf3
    obtain ⟨i, l, svp, svq, hi, hgk, rfl, hll, hwp, hwq, hap, hnp, hnq, hf⟩ := hrel
    have Hgk : Hid _ := hgk
    clear hgk
    by_cases hlt : i < len0
    · obtain ⟨ao', cap', e, -, hcl⟩ := Hrl.out.keep hf
      obtain ⟨b, off, rfl, hcell⟩ := hcl (by rw [length_row, Hll.out]; omega)
      simp only [Value.slice.injEq] at e
      obtain ⟨rfl, -, rfl⟩ := e
      have cg := hcell i _ (row_get .u64 ls i (by rw [Hll.out]; exact hlt))
      have hu := Hls.out i
      generalize ls.getD i 0 = u at cg hu
      clear hcell hcl
      obtain ⟨X, hXe, hX1⟩ := shr_le u ((s + 7 * i) % 64)
      have hX2 : X < 18446744073709551616 := by omega
      have hrem : ((s : Int) + 7 * (i : Int)).tmod 64 = (((s + 7 * i) % 64 : Nat) : Int) := by rw [Int.tmod_eq_emod_of_nonneg (by omega)]; omega
      have ii : (i : Int) < (len0 : Int) := by omega
      have HXe : Hid _ := hXe
      clear hXe hX1
      go_wp2_with fail
      rw [HXe.out]
      refine (gput_any p svp l X wr hwp (by omega) hX2).mono ?_
      rintro e wd ⟨rfl, svp', hwp', hfd, hmd⟩
      have hap' : Apart q svq p svp' := hap.symm.moved hmd hwq.lt
      replace hwq := hwq.frame hfd hap.symm
      have hnp' := hnp.moved hmd hf.size
      replace hfd := hf.newer hfd hnp
      clear hwp hap hnp hmd hf cg
      go_wp2_with fail
      refine (refGput_any q svq l X wd hwq (by omega) hX2).mono ?_
      rintro e we ⟨rfl, svq', hwq', hfe, hme⟩
      have hap2 : Apart p svp' q svq' := hap'.symm.moved hme hwp'.lt
      replace hwp' := hwp'.frame hfe hap'.symm
      have hnq' := hnq.moved hme hfd.size
      replace hfe := hfd.newer hfe hnq
      clear hwq hap' hnq hme hfd
      generalize hl2 : l ++ gbits X = l2 at hwp' hwq'
      have hl3 : l2.length ≤ 127 * (i + 1) := by
        rw [← hl2, List.length_append, length_gbits]
        have := gsize_le X hX2
        omega
      clear hl2
      obtain ⟨ao, cp, rfl⟩ : ∃ ao cp, svq' = .slice ao l2.length cp := by
        rcases hwq'.2.2 with ⟨rfl, h0⟩ | ⟨g, cp, cur, rfl, _⟩
        · exact ⟨none, 0, by rw [h0]⟩
        · exact ⟨some ⟨g, 0, none⟩, cp, rfl⟩
      have cq := cell_of_one hwq'.1
      go_wp2
      refine wp_region_still_lit (by kernel_rfl) (by kernel_rfl) ?_
      still_step
      still_call (len_any p svp' l2 _ hwp'.drew)
      repeat still_step
      still_call (gsize_any X _ hX2)
      repeat still_step
      still_call (refGsize_any X _ hX2)
      repeat still_step
      refine wpStill_nil ?_
      clear cq
      go_wp2
      go_roundg (len0 - (i + 1))
      case rel => exact ⟨i + 1, l2, _, _, by omega, rfl, by go_num, hl3, hwp'.drew, hwq'.drew, hap2, hnp', hnq', hfe.drew⟩
      case measure => have := Hgk.out; omega
    · have hl20 : l.length ≤ 2540 := by omega
      go_wp2_with fail
      refine (refBytes_any q svq l _ hwq (by omega)).mono ?_
      rintro e wd ⟨vB, rfl, hvB, hwqB, hfB⟩
      have hwpB := hwp.frame hfB (fun _ _ h => h)
      replace hfB := hf.none hfB
      have hrB := hvB.reads
      obtain ⟨gB, rfl, -⟩ := id hvB
      clear hf hwqB hwp hwq hap hnp hnq hll hvB
      have hcb : ∀ x, Fr wd.drew x (fun _ => False) → (convert 23 9 (.slice (some ⟨gB, 0, none⟩) (pack l).length (pack l).length)).run Try.prog x = .ok (.string (strOf (pack l))) x := fun x hx => conv_rds (Rds.frame (w := wd.drew) hrB hx (fun _ _ h => h))
      go_wp2
      refine wp_region_lex (fun _ => False) [1] [0, 3, 4, 1, 2, 5] (by kernel_rfl) (by kernel_rfl) rfl (by kernel_rfl) ?_
      repeat (refine wpLex_take (v := ?_) rfl rfl rfl (fun x hx => ?_) ?_; rotate_left; (focus (go_simp; with_reducible rfl)); simp only [Act.put, List.setIfInBounds_toArray, List.set_cons_zero, List.set_cons_succ])
      clear hcb
      refine wpLex_step rfl rfl rfl (fun K hK => ?_)
      go_simp
      refine (bytesP_any p svp l _ hwpB.drew (by omega)).mono ?_
      rintro e wA ⟨vA, rfl, hvA, hwpA, hfA⟩
      have hcA : ∀ x, Fr wA x (fun _ => False) → (convert 23 9 vA).run Try.prog x = .ok (.string (strOf (pack l))) x := fun x hx => conv_rds (hvA.reads.frame hx (fun _ _ h => h))
      refine hK _ _ hfA ?_
      clear hK K
      repeat (refine wpLex_take (v := ?_) rfl rfl rfl (fun x hx => ?_) ?_; rotate_left; (focus (go_simp; with_reducible rfl)); simp only [Act.put, List.setIfInBounds_toArray, List.set_cons_zero, List.set_cons_succ])
      refine wpLex_nil ?_
      have hrB2 := Rds.frame (w := wd.drew) hrB hfA (fun _ _ h => h)
      replace hfA := hfB.drew.none hfA
      clear hcA hvA hwpA hwpB hfB hrB
      obtain ⟨i0, hi0, hz0, hz1, hz2⟩ := info_parts Try.info5
      obtain ⟨z, hz⟩ : ∃ z, z = s % 10 := ⟨_, rfl⟩
      have hze : (s : Int) % 10 = (z : Int) := by omega
      have hz9 : z ≤ 9 := by omega
      clear hz
      go_wp2_with (at_make; refine wpList_make_full _ rfl _ _ 23 rfl 0 5 i0 (.int .u8 0) 1 Try.underlying23 hi0 hz0 hz1 _ _ _ _ z rfl rfl (by omega) (by omega) ?b1 ?b2 (Nat.zero_le _) ?_)
      case b1 => rw [hz2]; omega
      case b2 => unfold maxLen; omega
      intro wm hown hgrow
      rw [row_zeros] at hown
      have hfm : Fr wA wm (fun _ => False) := (Fr.refl wA _).grown hgrow (fun k hk => by cases hk)
      have hfwm := hfA.none hfm
      obtain ⟨vC, wC, hrunC, hoC, hfC, hmC, -⟩ := app_bytes wm (.slice (some ⟨wA.heap.size, 0, none⟩) z z) (.slice a1 len1 cap1) (List.replicate z 0) rs (by unfold Own; rw [List.length_replicate]; exact hown) (Hrr.out.keep hfwm) (by rw [List.length_replicate, Hrsl.out]; omega)
      have hfAC : Fr wA wC (fun _ => False) := hfm.newer hfC (fun k hk => by simp [Value.ownBlock] at hk; omega)
      have hfwC := hfA.none hfAC
      have hrB3 := hrB2.frame hfAC (fun _ _ h => h)
      have hrC := hoC.reads
      obtain ⟨aC, lC, capC, rfl⟩ := hrC.form
      have hr3 : ∀ i, i < 3 → ∃ V bs, (wC.alloc (.cells #[Value.slice a1 len1 cap1, .slice (some ⟨gB, 0, none⟩) (pack l).length (pack l).length, .slice aC lC capC] 23)).cell? ⟨wC.heap.size, i, none⟩ = some V ∧ Rds wC V bs ∧ (∀ j, bs.getD j 0 < 256) ∧ bs.length ≤ 1000 := by
        intro i hi
        have hlit := holds_lit wC 23 [Value.slice a1 len1 cap1, .slice (some ⟨gB, 0, none⟩) (pack l).length (pack l).length, .slice aC lC capC] (by simp)
        obtain ⟨ao, cp, e, -, hcc⟩ := hlit
        obtain ⟨b, off, rfl, hcell⟩ := hcc (by simp)
        simp only [Value.slice.injEq, Option.some.injEq, Addr.mk.injEq, and_true] at e
        obtain ⟨⟨rfl, rfl⟩, -⟩ := e
        simp only [Nat.zero_add] at hcell
        match i, hi with
        | 0, _ => exact ⟨_, rs, hcell 0 _ rfl, (Hrr.out.keep hfwC).rds, Hrs.out, by rw [Hrsl.out]; omega⟩
        | 1, _ => exact ⟨_, pack l, hcell 1 _ rfl, hrB3, (packs_pack l).small, by rw [length_pack]; omega⟩
        | 2, _ =>
          refine ⟨_, List.replicate z 0 ++ rs, hcell 2 _ rfl, hrC.rds, fun j => ?_, by rw [List.length_append, List.length_replicate, Hrsl.out]; omega⟩
          rw [List.getD_eq_getElem?_getD, List.getElem?_append]
          split
          · rw [List.getElem?_replicate]
            split <;> decide
          · have := Hrs.out (j - (List.replicate z 0).length)
            rwa [List.getD_eq_getElem?_getD] at this
      have hfS := hfwC.alloc (.cells #[Value.slice a1 len1 cap1, .slice (some ⟨gB, 0, none⟩) (pack l).length (pack l).length, .slice aC lC capC] 23)
      have hfCS := (Fr.refl wC (fun _ => False)).alloc (.cells #[Value.slice a1 len1 cap1, .slice (some ⟨gB, 0, none⟩) (pack l).length (pack l).length, .slice aC lC capC] 23)
      have Hr3 : Hid _ := hr3
      clear hr3 hrC hrB3 hfwC hfAC hmC hfC hoC hfwm hfm hown hgrow hrB2 hfA hi0 hz0 hz1 hz2 hl20
      go_wp2_with (at_builtin; refine wpList_append_run rfl (.tmp 87) (.tmp 88) 23 rfl rfl rfl hrunC ?_)
      clear hrunC
      generalize wC.alloc (.cells #[Value.slice a1 len1 cap1, .slice (some ⟨gB, 0, none⟩) (pack l).length (pack l).length, .slice aC lC capC] 23) = wS at *
      generalize wC.heap.size = B at *
      have Hc3 : Hid (∀ wr, Fr wS wr (fun _ => False) → ∀ i, i < 3 → ∃ V bs, wr.cell? ⟨B, i, none⟩ = some V ∧ Rds wr V bs ∧ (∀ j, bs.getD j 0 < 256) ∧ bs.length ≤ 1000) := by
        intro wr hfr i hi
        obtain ⟨V, bs, h1, h2, h3, h4⟩ := Hr3.out i hi
        refine ⟨V, bs, ?_, (h2.frame hfCS (fun _ _ h => h)).frame hfr (fun _ _ h => h), h3, h4⟩
        rw [World.cell?_of_block (w := wS) (hfr.block _ (World.block_lt_of_cell? _ _ h1) (fun h => h))]
        exact h1
      clear Hr3 hfCS
      go_loopg [92] 3 (fun gh I wr => ∃ i : Nat, i ≤ 3 ∧ gh = 3 - i ∧ I = .int .i64 (i : Int) ∧ Fr wS wr (fun _ => False))
      case atStart => exact ⟨0, by omega, by omega, rfl, Fr.refl _ _⟩
      case round =>
        obtain ⟨i, hi, hgk, rfl, hfr⟩ := hrel
        have Hgk : Hid _ := hgk
        clear hgk
        by_cases hlt : i < 3
        · obtain ⟨V, bs, cV, hrV, hbV, hlV⟩ := Hc3.out wr hfr i hlt
          obtain ⟨aV, capV, rfl⟩ : ∃ aV capV, V = .slice aV bs.length capV := by
            obtain ⟨ao, cap, e, _⟩ := hrV
            exact ⟨_, _, e⟩
          have HbV : Hid _ := hbV
          have HrV : Hid (Rds wr (.slice aV bs.length capV) bs) := hrV
          clear hbV hrV
          go_wp2_with fail
          refine (newReader_any _ bs wr HrV.out (by omega) HbV.out).mono ?_
          rintro e wx ⟨r, svr, rfl, hrd, hfx, hnr⟩
          have hrx := HrV.out.frame hfx (fun _ _ h => h)
          have hyl : 0 < bs.length → ∀ k, (Value.slice aV bs.length capV).ownBlock = some k → k < r := fun h0 k hk => by
            have := rds_lt HrV.out h0 k hk; have := hnr r (.inl rfl); omega
          have hrS : wS.heap.size ≤ r := by have := hnr r (.inl rfl); have := hfr.size; omega
          have hrlt : r < wx.heap.size := lt_of_block hrd.1
          have hsl : 0 < bs.length → ∀ k, svr.ownBlock = some k → k < wx.heap.size := rds_lt hrd.2.1
          have hqd : Rd 42 (wx.alloc (.cells #[.slice aV bs.length capV, .int .i64 0] 42)) wx.heap.size (.slice aV bs.length capV) bs 0 := rd_new hrx hlV HbV.out
          have hrd' := hrd.frame ((Fr.refl wx (fun _ => False)).alloc (.cells #[.slice aV bs.length capV, .int .i64 0] 42)) (fun _ _ h => h)
          have hfy := (hfr.none hfx).alloc (.cells #[.slice aV bs.length capV, .int .i64 0] 42)
          clear hrd hrx hnr hfx hfr cV HrV
          have Hyl : Hid _ := hyl
          have Hsl : Hid _ := hsl
          clear hyl hsl
          go_wp2_with fail
          generalize wx.alloc (.cells #[.slice aV bs.length capV, .int .i64 0] 42) = wy at *
          generalize wx.heap.size = q2 at *
          go_loopg [16] 30 (fun gh J wi => ∃ j at' : Nat, j ≤ 30 ∧ gh = 30 - j ∧ J = .int .i64 (j : Int) ∧ Rd 57 wi r svr bs at' ∧ Rd 42 wi q2 (.slice aV bs.length capV) bs at' ∧ Fr wS wi (fun _ => False))
          case atStart => exact ⟨0, 0, by omega, by omega, rfl, hrd', hqd, hfy⟩
          case round =>
            clear hrd' hqd hfy
            obtain ⟨j, at', hj, hgj, rfl, hrp, hrq, hfi⟩ := hrel
            have Hgj : Hid _ := hgj
            clear hgj
            by_cases hjl : j < 30
            · go_wp2_with fail
              refine (gtake_any r svr bs at' _ hrp).mono ?_
              rintro e w1 ⟨rfl, hrp1, hf1⟩
              replace hrq := hrq.frame' hf1 (by omega) (fun h0 k hk e => by have := Hyl.out h0 k hk; omega)
              replace hf1 := hfi.newer1 hf1 hrS
              clear hrp hfi
              go_wp2_with fail
              refine (refGtake_any q2 _ bs at' _ hrq).mono ?_
              rintro e w2 ⟨rfl, hrq2, hf2⟩
              replace hrp1 := hrp1.frame' hf2 (by omega) (fun h0 k hk e => by have := Hsl.out h0 k hk; omega)
              replace hf2 := hf1.newer1 hf2 (by omega)
              clear hrq hf1
              generalize at' + glen (rest bs at') = at2 at *
              generalize gval (rest bs at') = G
              generalize gok (rest bs at') = Bo
              go_wp2_with fail
              refine (left_fr r svr bs at2 w2 hrp1).mono ?_
              rintro e w3 ⟨rfl, hrp3, hf3⟩
              replace hrq2 := hrq2.frame hf3 (fun _ _ h => h)
              replace hf3 := hf2.none hf3
              go_wp2_with fail
              refine (refLeft_fr q2 _ bs at2 w3 hrq2).mono ?_
              rintro e w4 ⟨rfl, hrq4, hf4⟩
              replace hrp3 := hrp3.frame hf4 (fun _ _ h => h)
              replace hf4 := hf3.none hf4
              clear hrp1 hrq2 hf2 hf3
              go_wp2
              go_roundg (30 - (j + 1))
              case rel => exact ⟨j + 1, at2, by omega, rfl, by go_num, hrp3, hrq4, hf4⟩
              case measure => have := Hgj.out; omega
            · go_wp2
              go_roundg (3 - (i + 1))
              case rel => exact ⟨i + 1, by omega, rfl, by go_num, hfi⟩
              case measure => have := Hgk.out; omega
        · have hfe := hfS.none hfr
          go_wp2_with fail
          refine (gtake_nil _).mono ?_
          rintro e w1 ⟨rfl, rfl⟩
          go_wp2
          go_ret
          exact ⟨rfl, hfe.below (Nat.le_refl _) (fun _ h => h.elim)⟩

end Go.Proofs.Ytknmlmkenmaocaa.gammaTells
