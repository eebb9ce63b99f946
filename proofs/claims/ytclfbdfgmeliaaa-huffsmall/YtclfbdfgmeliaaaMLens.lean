/-
  The contract of merge's Lengths.
-/
import Derived.Test.YtclfbdfgmeliaaaMSort
import Derived.Test.YtclfbdfgmeliaaaMTally
namespace Go.Proofs.Ytclfbdfgmeliaaa
open Go.RowKit

theorem infoInt : (Try.prog.info? 3).map (fun i => (i.zero, i.size, i.bytes)) = some (some (.int .i64 0), 1, 8) := by kernel_rfl

set_option maxRecDepth 4000 in
set_option maxHeartbeats 800000 in
theorem lengths_any (v : Value) (zs : List Int) (most : Int) (w : World) (h : ReadsZ w v zs) (hm1 : -9223372036854775808 ≤ most) (hm2 : most ≤ 9223372036854775807) :
    Calls Try.prog 23 #[v, .int .i64 most] w fun e w' => ∃ sv, e = .returned sv ∧ Reads .i64 w' sv (pmLens (zs.map clampN) (clampM most)) ∧ Fr w w' (fun _ => False) ∧ (∀ k, sv.ownBlock = some k → w.heap.size ≤ k) := by
  obtain ⟨a0, c0, rfl, hc0⟩ := h.form
  have Hz : Hid (ReadsZ w (.slice a0 zs.length c0) zs) := h
  obtain ⟨n, hn⟩ : ∃ n, n = zs.length := ⟨_, rfl⟩
  rw [← hn] at Hz hc0 ⊢
  have Hn : Hid _ := hn
  clear h hn
  obtain ⟨L, hL⟩ : ∃ L, L = clampM most := ⟨_, rfl⟩
  rw [← hL]
  have HL : Hid ((L : Int) = min (max most 1) 15) := by show _ = _; rw [hL]; unfold clampM; omega
  clear hL
  by_cases h256 : 256 < n
  · have He : Hid (pmLens (zs.map clampN) L = []) := by
      show _ = _
      unfold pmLens
      rw [if_pos (by rw [List.length_map, ← Hn.out]; exact .inl h256)]
    go_enter Try.func23, Try.ntmps23
    go_wp2_with fail
    go_ret
    refine ⟨_, rfl, ?_, Fr.refl _ _, fun k hk => by simp [Value.ownBlock] at hk⟩
    rw [He.out]
    exact holds_own (World.ownsRow_nil w 0 0 1)
  · have hL1 : 1 ≤ L := by have := HL.out; omega
    have hL15 : L ≤ 15 := by have := HL.out; omega
    have hmm : (most < 1 ∧ L = 1) ∨ (15 < most ∧ L = 15) ∨ (1 ≤ most ∧ most ≤ 15 ∧ most = (L : Int)) := by have := HL.out; omega
    go_enter Try.func23, Try.ntmps23
    go_wp2_with fail
    rw [← HL.out]
    refine (sorted_any _ zs _ Hz.out (by rw [← Hn.out]; omega)).mono ?_
    rintro e w1 ⟨sv1, rfl, ho1, hf1⟩
    obtain ⟨a1, c1, rfl, hc1⟩ := RdX.form ho1.rd
    rw [List.length_map, coin_length] at ho1 hc1 ⊢
    have Ho1 : Hid (OwnL (cnt (zs.map clampN)) w1 (.slice a1 (there (zs.map clampN)).length c1) (coin (there (zs.map clampN)))) := ho1
    obtain ⟨m, hm⟩ : ∃ m, m = (there (zs.map clampN)).length := ⟨_, rfl⟩
    rw [← hm] at Ho1 hc1 ⊢
    have Hm : Hid _ := hm
    obtain ⟨P, hP⟩ : ∃ P, P = 2 ^ L := ⟨_, rfl⟩
    have hPb : P ≤ 32768 := by rw [hP]; exact Nat.le_trans (Nat.pow_le_pow_right (by omega) hL15) (by decide)
    have HP : Hid _ := hP
    have hpw : wrap64 ((2 : Int) ^ L) = (P : Int) := by
      have e1 : (2 : Int) ^ L = ((2 ^ L : Nat) : Int) := by simp
      rw [e1, ← hP, wrap64_small _ (by omega) (by omega)]
    clear ho1 hm hP hmm
    by_cases hmP : P < m
    · have hd : decide ((P : Int) < (m : Int)) = true := by simp; omega
      have He : Hid (pmLens (zs.map clampN) L = []) := by
        show _ = _
        unfold pmLens
        rw [if_pos (by rw [← Hm.out, ← HP.out]; exact .inr hmP)]
      go_wp2_with fail
      go_ret
      refine ⟨_, rfl, ?_, hf1, fun k hk => by simp [Value.ownBlock] at hk⟩
      rw [He.out]
      exact holds_own (World.ownsRow_nil w1 0 0 1)
    · have hd : decide ((P : Int) < (m : Int)) = false := by simp; omega
      have Hpm : Hid (pmLens (zs.map clampN) L = fnRow n (pmLen (zs.map clampN) L)) := by
        show _ = _
        unfold pmLens fnRow
        rw [if_neg (by rw [← Hm.out, ← HP.out, List.length_map, ← Hn.out]; omega), List.length_map, ← Hn.out]
      obtain ⟨i0, hi0, hz0, hz1, hz2⟩ := info_parts infoInt
      go_wp2_with (at_make; refine wpList_make_full _ rfl _ _ 28 rfl 0 3 i0 (.int .i64 0) 1 Try.underlying28 hi0 hz0 hz1 _ _ _ _ n rfl rfl rfl rfl ?b1 ?b2 (Nat.zero_le _) ?_)
      case b1 => rw [hz2]; omega
      case b2 => unfold maxLen; omega
      intro wm hown hgrow
      have hz : (madeCells #[Value.int .i64 0] n).toList = row .i64 (fnRow n (fun _ => 0)) := by
        rw [toList_madeCells_one]
        apply List.ext_getElem?
        intro t
        simp only [row, fnRow, List.map_map, List.getElem?_map]
        by_cases ht : t < n
        · simp [ht]
        · simp [ht]
      rw [hz] at hown
      have hfm : Fr w1 wm (fun _ => False) := (Fr.refl w1 _).grown hgrow (fun k hk => by cases hk)
      have hfwm := hf1.none hfm
      obtain ⟨g, hg⟩ : ∃ g, g = w1.heap.size := ⟨_, rfl⟩
      have Hgw : Hid (w.heap.size ≤ g) := by show _ ≤ _; have := hf1.size; omega
      rw [← hg] at hown ⊢
      have Hown : Hid (OwnC wm (.slice (some ⟨g, 0, none⟩) n n) (fnRow n (fun _ => 0))) := by unfold OwnC; rw [fnRow_length]; exact hown
      have Ho2 : Hid (OwnL (cnt (zs.map clampN)) wm (.slice a1 m c1) (coin (there (zs.map clampN)))) := OwnX.keep Ho1.out hfm
      clear hgrow hfm hf1 hg hown hz Ho1 hi0 hz0 hz1 hz2
      rcases (by omega : m = 0 ∨ m = 1 ∨ 2 ≤ m) with hm0 | hm1 | hm2
      · have Hr : Hid (fnRow n (pmLen (zs.map clampN) L) = fnRow n (fun _ => 0)) := by
          show _ = _
          have e0 : there (zs.map clampN) = [] := List.eq_nil_of_length_eq_zero (by rw [← Hm.out]; exact hm0)
          congr 1
          funext s
          have h1 := (there_mem (zs.map clampN) s)
          have hs := (pmLen_pos (counts := zs.map clampN) (L := L) hL1 (by rw [e0]; simp) s).1
          rw [e0] at h1
          simp at h1
          omega
        subst hm0
        go_wp2_with fail
        go_ret
        refine ⟨_, rfl, ?_, hfwm, fun k hk => by simp [Value.ownBlock] at hk; rw [← hk]; exact Hgw.out⟩
        rw [Hpm.out, Hr.out]
        exact holds_own Hown.out
      · obtain ⟨s0, hs0⟩ : ∃ s, there (zs.map clampN) = [s] := List.length_eq_one_iff.1 (by rw [← Hm.out]; exact hm1)
        have hsn : s0 < n := by
          have h1 : s0 ∈ there (zs.map clampN) := by rw [hs0]; simp
          unfold there at h1
          have := ((syms_mem _ _ _).1 h1).1
          rw [List.length_map, ← Hn.out] at this
          exact this
        have Hr : Hid ((fnRow n (fun _ => 0)).set s0 1 = fnRow n (pmLen (zs.map clampN) L)) := by
          show _ = _
          refine fnRow_set n _ _ s0 1 ?_ ?_
          · unfold pmLen
            rw [if_pos (by rw [hs0]; rfl), if_neg ((there_mem _ _).1 (by rw [hs0]; simp))]
          · intro t ht
            unfold pmLen
            rw [if_pos (by rw [hs0]; rfl), if_pos]
            have := (there_mem (zs.map clampN) t)
            rw [hs0] at this
            simp only [List.mem_singleton] at this
            by_cases h0 : cnt (zs.map clampN) t = 0
            · exact h0
            · exact absurd (this.2 h0) ht
        have ho := Ho2.out
        rw [hs0] at ho
        obtain ⟨b, off, cp, e, hb0, kx⟩ := RdX.get ho.rd 0 (itm (cnt (zs.map clampN)) [s0]) rfl
        simp only [Value.slice.injEq] at e
        obtain ⟨rfl, -, rfl⟩ := e
        have c1 := (kx wm (Fr.refl _ _)).2
        have hY : (itm (cnt (zs.map clampN)) [s0]).2 = (s0 : Int) := rfl
        rw [hY, Nat.zero_mul, Nat.add_zero] at c1
        have hoc := Hown.out
        unfold OwnC at hoc
        rw [fnRow_length] at hoc
        have hfz := World.ownsRow.frozenAt hoc s0
        have hce : wm.cell? ⟨g, s0, none⟩ = some (.int .i64 0) := by
          rw [World.ownsRow.cellAt hoc s0 (by omega)]
          simp [row, fnRow, hsn]
        have Hst : Hid (OwnC (wm.setCell ⟨g, s0, none⟩ (.int .i64 1)) (.slice (some ⟨g, 0, none⟩) n n) (fnRow n (pmLen (zs.map clampN) L))) := by
          have := (World.ownsRow.stored hoc s0 (.int .i64 ((1 : Nat) : Int))).1
          unfold OwnC
          rw [fnRow_length, ← Hr.out, row_set]
          exact this
        have hs1 : (s0 : Int) < (n : Int) := by omega
        clear ho kx hoc hY hs0
        subst hm1
        go_wp2_with fail
        go_ret
        refine ⟨_, rfl, ?_, hfwm.setCell ⟨g, s0, none⟩ (fun h => by have := Hgw.out; simp at h; omega) _, fun k hk => by simp [Value.ownBlock] at hk; rw [← hk]; exact Hgw.out⟩
        rw [Hpm.out]
        exact holds_own Hst.out
      · have hb1 : ((m : Int) == 1) = false := by rw [beq_eq_false_iff_ne]; omega
        have hb2 : decide ((1 : Int) < (m : Int)) = true := decide_eq_true (by omega)
        have hmn : m ≤ n := by
          have h1 := (syms_perm (cnt (zs.map clampN)) (zs.map clampN).length).length_eq
          have h2 : (some_ (cnt (zs.map clampN)) (zs.map clampN).length).length ≤ (zs.map clampN).length := by
            unfold some_
            exact Nat.le_trans (List.length_filter_le _ _) (by simp)
          rw [← h1, List.length_map, ← Hn.out] at h2
          rw [Hm.out]
          unfold there
          rw [List.length_map, ← Hn.out]
          exact h2
        have ht1 : IntKind.i64.wrap (2 * (m : Int)) = ((2 * m : Nat) : Int) := by rw [IntWalk.i64_in _ (by omega)]; omega
        have ht2 : IntKind.i64.wrap (((2 * m : Nat) : Int) - 2) = ((2 * m - 2 : Nat) : Int) := by rw [IntWalk.i64_in _ (by omega)]; omega
        obtain ⟨T, hT⟩ : ∃ T, T = 2 * m := ⟨_, rfl⟩
        obtain ⟨T2, hT2⟩ : ∃ T2, T2 = 2 * m - 2 := ⟨_, rfl⟩
        rw [← hT2, ← hT] at ht2
        rw [← hT] at ht1
        have HT2 : Hid _ := hT2
        clear hT hT2
        go_wp2_with fail
        refine (lists_any (cnt (zs.map clampN)) _ (there (zs.map clampN)) L wm Ho2.out (by rw [← Hm.out]; omega) (by rw [← Hm.out]; omega) (fun s => ?wb) hL1 hL15).mono ?_
        case wb =>
          unfold cnt
          rw [List.getD_eq_getElem?_getD, List.getElem?_map]
          cases zs[s]? with
          | none => simp
          | some z => exact clampN_le z
        rintro e w2 ⟨sv2, vs, rfl, hoa, hvl, hf2⟩
        have Hoa : Hid _ := hoa
        have Hof : Hid (OwnC w2 (.slice (some ⟨g, 0, none⟩) n n) (fnRow n (fun _ => 0))) := hf2.owns Hown.out (fun _ _ h => h)
        clear hoa
        obtain ⟨a3, c3, hl3⟩ : ∃ a c, sv2 = .slice a L c := by
          rcases Hoa.out.1.2 with ⟨_, h0⟩ | ⟨g', cap', _, rfl, _⟩
          · omega
          · exact ⟨_, _, by rw [hvl]⟩
        subst hl3
        go_wp2_with fail
        refine (tally_any (cnt (zs.map clampN)) (there (zs.map clampN)) _ g n vs n L T2 w2 Hoa.out hvl hL1 hL15 Hof.out (fun s hs => ?cn) (by rw [← Hm.out]; omega) (by rw [← Hm.out]; omega) ?ft).mono ?_
        case cn =>
          unfold there at hs
          have := ((syms_mem _ _ _).1 hs).1
          rw [List.length_map, ← Hn.out] at this
          exact this
        case ft =>
          have := pm_fits (wt := cnt (zs.map clampN)) (cs := there (zs.map clampN)) (L := L) hL1 (by rw [← Hm.out]; exact hm2) (by rw [← Hm.out, ← HP.out]; omega)
          rw [← Hm.out] at this
          rw [HT2.out]
          exact this
        rintro e w3 ⟨rfl, ho3, hf3⟩
        have hf23 : Fr w w3 (fun _ => False) := (hfwm.none hf2).newer hf3 (fun k hk => by rw [hk]; exact Hgw.out)
        have Hr : Hid (fnRow n (fun s => occ ((lv (cnt (zs.map clampN)) (there (zs.map clampN)) (L - 1)).take T2) s) = fnRow n (pmLen (zs.map clampN) L)) := by
          show _ = _
          congr 1
          funext s
          unfold pmLen pmOcc
          rw [if_neg (by rw [← Hm.out]; omega), ← Hm.out, HT2.out]
        clear hf2 hf3 hfwm
        go_wp2_with fail
        go_ret
        refine ⟨_, rfl, ?_, hf23, fun k hk => by simp [Value.ownBlock] at hk; rw [← hk]; exact Hgw.out⟩
        rw [Hpm.out, ← Hr.out]
        exact holds_own ho3

end Go.Proofs.Ytclfbdfgmeliaaa
