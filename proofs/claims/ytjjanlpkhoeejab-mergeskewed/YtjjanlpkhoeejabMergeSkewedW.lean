/-
  The walk of the law MergeSkewed: called with whatever arguments, it returns true and touches nothing that was there. No condition.
-/
import Derived.Test.YtjjanlpkhoeejabRows
import Derived.Test.YtjjanlpkhoeejabMLens
namespace Go.Proofs.Ytjjanlpkhoeejab.mergeSkewed
open Go.ChangeShapes Go.WideShapes Go.ChangeAt Go.RowKit

theorem app_c (w : World) (v u : Value) (bs cs : List Nat) (h : OwnC w v bs) (hu : Reads .i64 w u cs) (hb : bs.length + cs.length ≤ 100000000000) :
    ∃ v' w', (Builtin.append_ #[23, 23] 23 #[v, u]).run Try.prog w = .ok v' w' ∧ OwnC w' v' (bs ++ cs) ∧ Fr w w' (fun k => v.ownBlock = some k) ∧ Moved w v v' := by
  obtain ⟨i0, hi, hz0, hz1, hz2⟩ := info_parts infoInt
  obtain ⟨v', w', h1, h2, h3, h4, -, -⟩ := run_append_holds (P := Try.prog) w 23 23 3 i0 (.int .i64 0) 8 Try.underlying23 hi hz0 hz1 hz2 rfl (by decide) v _ _ h u _ hu (row_one _ _) (by rw [length_row]; exact hb)
  refine ⟨v', w', h1, ?_, h3, h4⟩
  unfold OwnC
  rw [length_row] at h2
  rw [List.length_append, row_append]
  exact h2

set_option maxRecDepth 4000 in
set_option maxHeartbeats 800000 in
theorem walk (a0 : Int) (w0 : (Lit.int .u8 a0).wf = true) (w : World) :
    Calls Try.prog 3 #[.int .u8 a0] w fun e w' => e = .returned (.bool true) ∧ Below w.heap.size w w' := by
  obtain ⟨hb0, hb0'⟩ := bounds_u8 w0
  obtain ⟨nn, rfl⟩ := Int.eq_ofNat_of_zero_le hb0
  obtain ⟨k, hk⟩ : ∃ k, k = nn % 14 + 2 := ⟨_, rfl⟩
  have hke : (nn : Int) % 14 + 2 = (k : Int) := by omega
  have hk2 : 2 ≤ k := by omega
  have hk15 : k ≤ 15 := by omega
  clear w0 hb0 hk
  go_enter Try.func3, Try.ntmps3
  go_wp2_with fail
  refine (known_any mc w).mono ?_
  rintro e w1 ⟨rfl, hf1⟩
  go_wp2_with fail
  go_loopg [4, 5] k (fun g S I wr => ∃ i : Nat, g = k - i ∧ i ≤ k ∧ I = .int .i64 (i : Int) ∧ OwnC wr S (fnRow i (fun i => 2 ^ i)) ∧ Fr w wr (fun _ => False) ∧ (∀ k, S.ownBlock = some k → w.heap.size ≤ k))
  case atStart => exact ⟨0, rfl, by omega, rfl, World.ownsRow_nil _ _ _ _, hf1, fun k hk => (by simp [Value.ownBlock] at hk)⟩
  case round =>
    obtain ⟨i, hg, hi, rfl, ho, hf, hnew⟩ := hrel
    have Hg : Hid _ := hg
    have Ho : Hid (OwnC wr u4 (fnRow i (fun i => 2 ^ i))) := ho
    have Hnew : Hid _ := hnew
    clear hg ho hnew
    by_cases hlt : i < k
    · obtain ⟨P, hP⟩ : ∃ P, P = 2 ^ i := ⟨_, rfl⟩
      have hPb : P ≤ 16384 := by rw [hP]; exact Nat.le_trans (Nat.pow_le_pow_right (by omega) (by omega : i ≤ 14)) (by decide)
      have HPw : Hid (wrap64 ((2 : Int) ^ i) = (P : Int)) := by
        show _ = _
        have e : (2 : Int) ^ i = ((2 ^ i : Nat) : Int) := by simp
        rw [e, ← hP]
        exact wrap64_small _ (by omega) (by omega)
      have Hs : Hid (fnRow (i + 1) (fun i => 2 ^ i) = fnRow i (fun i => 2 ^ i) ++ [P]) := by
        show _ = _
        unfold fnRow
        rw [List.range_succ, List.map_append, hP]
        rfl
      obtain ⟨v5, w5, hrun5, ho5, hf5, hm5⟩ := app_c (wr.alloc (.cells #[.int .i64 (P : Int)] 3)) u4 (.slice (some ⟨wr.heap.size, 0, none⟩) 1 1) _ [P] (World.ownsRow.alloc Ho.out _) (holds_lit wr 3 [.int .i64 (P : Int)] (by simp)) (by rw [fnRow_length]; simp; omega)
      rw [← Hs.out] at ho5
      have Hro : Hid _ := ho5
      have Hfo : Hid (Fr w w5 (fun _ => False)) := (hf.alloc _).newer hf5 (fun k hk => Hnew.out k hk)
      have Hnw : Hid (∀ k, v5.ownBlock = some k → w.heap.size ≤ k) := fun k hk => by
        rcases hm5 k hk with h | h
        · exact Hnew.out k h
        · have := (hf.alloc (.cells #[.int .i64 (P : Int)] 3)).size; omega
      clear ho5 hf5 hm5 hP
      have hPw := HPw.out
      go_wp2_with (at_builtin; refine wpList_append_run rfl (.tmp 19) (.tmp 22) 23 rfl rfl rfl hrun5 ?_)
      clear hPw HPw
      go_roundg (k - (i + 1))
      case rel => exact ⟨i + 1, rfl, by omega, by go_num, Hro.out, Hfo.out, Hnw.out⟩
      case measure => rw [Hg.out]; omega
    · obtain rfl : i = k := by omega
      have hr := holds_own Ho.out
      have hr2 : Reads .i64 wr u4 (fnRow i (fun i => 2 ^ i)) := hr
      obtain ⟨a4, c4, rfl, hc4, -⟩ := id hr2
      rw [length_row, fnRow_length] at hr2 hc4 ⊢
      have Hr : Hid (Reads .i64 wr (.slice a4 i c4) (fnRow i (fun i => 2 ^ i))) := hr2
      clear hr hr2
      have hcL := mc.lens _ _ 15 wr Hr.out.z (by rw [List.length_map, fnRow_length]; omega) (fun z hz => by
        obtain ⟨c, hc, rfl⟩ := List.mem_map.1 hz
        obtain ⟨j, hj, rfl⟩ := List.mem_map.1 hc
        have hj' := List.mem_range.1 hj
        have : 2 ^ j ≤ 2 ^ 15 := Nat.pow_le_pow_right (by omega) (by omega)
        generalize 2 ^ j = y at this
        omega) (by omega) (by omega)
      have hzc : ((fnRow i (fun i => 2 ^ i)).map fun (b : Nat) => (b : Int)).map clampN = (List.range i).map fun i => 2 ^ i := by
        unfold fnRow
        rw [List.map_map, List.map_map]
        apply List.map_congr_left
        intro j hj
        have hj' := List.mem_range.1 hj
        have : 2 ^ j ≤ 2 ^ 15 := Nat.pow_le_pow_right (by omega) (by omega)
        simp only [Function.comp, clampN]
        generalize 2 ^ j = y at this
        omega
      rw [hzc, show clampM 15 = 15 by decide, pm_skew i hk2 hk15] at hcL
      go_wp2_with fail
      refine hcL.mono ?_
      rintro e w2 ⟨sx, rfl, hrx, hf2⟩
      obtain ⟨ax, cx, rfl, hcx, -⟩ := id hrx
      rw [length_row, List.length_map, List.length_range] at hrx hcx ⊢
      replace hf2 := hf.none hf2
      have Hrx : Hid _ := hrx
      clear hcL hzc hrx
      go_wp2_with fail
      go_loopg [7] i (fun g J wx => ∃ j : Nat, g = i - j ∧ j ≤ i ∧ J = .int .i64 (j : Int) ∧ wx = w2)
      case atStart => exact ⟨0, rfl, by omega, rfl, rfl⟩
      case round =>
        obtain ⟨j, hg2, hj, rfl, rfl⟩ := hrel
        have Hg2 : Hid _ := hg2
        clear hg2
        by_cases hji : j < i
        · obtain ⟨_, _, e, -, hcA⟩ := Hrx.out
          rw [length_row, List.length_map, List.length_range] at hcA
          obtain ⟨ba, oa, rfl, hcellA⟩ := hcA (by omega)
          simp only [Value.slice.injEq] at e
          obtain ⟨rfl, -, rfl⟩ := e
          have ca0 := hcellA j _ (row_get .i64 _ j (by rw [List.length_map, List.length_range]; exact hji))
          have hv : ((List.range i).map fun s => min (i - s) (i - 1)).getD j 0 = min (i - j) (i - 1) := by
            rw [List.getD_eq_getElem?_getD, List.getElem?_map, List.getElem?_range hji]
            rfl
          rw [hv] at ca0
          obtain ⟨D, hD⟩ : ∃ D, D = i - j := ⟨_, rfl⟩
          obtain ⟨E, hE⟩ : ∃ E, E = i - 1 := ⟨_, rfl⟩
          rw [← hD, ← hE] at ca0
          have wD : IntKind.i64.wrap ((i : Int) - (j : Int)) = (D : Int) := by rw [IntWalk.i64_in _ (by omega)]; omega
          have wE : IntKind.i64.wrap ((i : Int) - 1) = (E : Int) := by rw [IntWalk.i64_in _ (by omega)]; omega
          have eD : (i : Int) - (j : Int) = (D : Int) := by omega
          have eE : (i : Int) - 1 = (E : Int) := by omega
          clear hcellA hcA hv hD hE
          rcases Nat.lt_or_ge E D with hED | hED
          · have hm : min D E = E := by omega
            rw [hm] at ca0
            have h1 : (E : Int) < (D : Int) := by omega
            clear hm
            go_wp2
            go_roundg (i - (j + 1))
            case rel => exact ⟨j + 1, rfl, by omega, by go_num, rfl⟩
            case measure => rw [Hg2.out]; omega
          · have hm : min D E = D := by omega
            rw [hm] at ca0
            have h1 : (D : Int) ≤ (E : Int) := by omega
            have h2 : ¬ (E : Int) < (D : Int) := by omega
            clear hm
            go_wp2
            go_roundg (i - (j + 1))
            case rel => exact ⟨j + 1, rfl, by omega, by go_num, rfl⟩
            case measure => rw [Hg2.out]; omega
        · go_wp2
          go_ret
          exact ⟨rfl, hf2.below (Nat.le_refl _) (fun k h => h.elim)⟩

end Go.Proofs.Ytjjanlpkhoeejab.mergeSkewed
