/-
  The walk of the law SnapDegrees, under the condition that snap's functions answer as their contracts say.
-/
import Derived.Test.YthdlhdeaeaahoaaRows
import Derived.Test.YthdlhdeaeaahoaaSI
import Derived.Test.YthdlhdeaeaahoaaXGood
import Derived.Test.YthdlhdeaeaahoaaSHelp
import Derived.Test.YthdlhdeaeaahoaaXIn
import Derived.Test.YthdlhdeaeaahoaaXTime
namespace Go.Proofs.Ythdlhdeaeaahoaa.snapDegrees
open Go.ChangeShapes Go.WideShapes Go.ChangeAt Go.RowKit

set_option maxRecDepth 4000 in
set_option maxHeartbeats 6400000 in
theorem walkM (M : SI) (a0 : Int) (a1 : Option Addr) (len1 cap1 : Nat) (z1 : List Int) (a2 : Int) (w : World) (w0 : (Lit.int .u8 a0).wf = true) (w1 : IsRow .u8 w a1 len1 cap1 z1) (w2 : (Lit.int .u8 a2).wf = true) :
    Calls Try.prog 6 #[.int .u8 a0, .slice a1 len1 cap1, .int .u8 a2] w fun e w' => e = .returned (.bool true) ∧ Below w.heap.size w w' := by
  obtain ⟨bs, hbl, hbb, hbr⟩ := bytes_arg w1
  have Hbs : Hid (Reads .u8 w (.slice a1 len1 cap1) bs) := hbr
  have Hbb : Hid (∀ x ∈ bs, x < 256) := hbb
  have Hbl : Hid (bs.length = len1) := hbl
  clear hbl hbb hbr
  obtain ⟨k, rfl, hk⟩ := eu8_nat w0
  have Hk : Hid (k < 256) := hk
  obtain ⟨ne, rfl, hne⟩ := eu8_nat w2
  have Hne : Hid (ne < 256) := hne
  clear w0 w1 w2 hk hne
  go_enter Try.func6, Try.ntmps6
  go_wp2_with fail
  refine (sknown_any M w).mono ?_
  rintro e w1 ⟨rfl, hf1⟩
  have H01 : Hid (Fr w w1 (fun _ => False)) := hf1
  have Hf1 : Hid (Fr w w1 (fun _ => False)) := hf1
  clear hf1
  by_cases hb90 : 90 < len1
  · have d1 : decide ((90 : Int) < (len1 : Int)) = true := decide_eq_true (by omega)
    have d1' : decide (90 < len1) = true := decide_eq_true hb90
    go_wp2
    go_ret
    exact ⟨rfl, ebelow Hf1.out⟩
  have db90 : decide ((90 : Int) < (len1 : Int)) = false := decide_eq_false (by omega)
  have db90' : decide (90 < len1) = false := decide_eq_false hb90
  have Hl : Hid (bs.length ≤ 90) := by have := Hbl.out; exact (by omega : bs.length ≤ 90)
  clear hb90
  go_wp2_with fail
  refine (seatH_any k _ bs _ (Hbs.out.keep Hf1.out) Hbb.out (by have := Hl.out; omega) Hk.out).mono ?_
  rintro r w2 ⟨n, E, a2', m, c2', rfl, hm, -, -, hok, hr2, hmc, g⟩
  have HO : Hid (HOk n E) := hok
  have Hm : Hid (m = E.length) := hm
  have Hr2 : Hid (RdV w2 (.slice a2' m c2') E) := hr2
  have Hf2 : Hid (Fr w w2 (fun _ => False)) := Hf1.out.none g
  have H12 : Hid (Fr w1 w2 (fun _ => False)) := g
  have Hm40 : Hid (m ≤ 40) := by have := hok.len; show _ ≤ _; omega
  clear g hok hm hr2
  go_upto_region 6 with fail
  obtain ⟨ph, hph⟩ : ∃ p, p = w2.heap.size := ⟨_, rfl⟩
  obtain ⟨w3, hw3⟩ : ∃ x, x = w2.alloc (.cells #[.int .u64 (n : Int), .slice a2' m c2'] 25) := ⟨_, rfl⟩
  rw [← hw3, ← hph]
  have Qh : Hid (∀ z, Fr w3 z (fun _ => False) → z.heap[ph]? = some (.cells #[.int .u64 (n : Int), .slice a2' m c2'] 25 (0, 0))) := fun z hz => hz.kept (by rw [hw3, hph]; exact heap_alloc_new _ _) (fun h => h)
  have H23 : Hid (Fr w2 w3 (fun _ => False)) := by show Fr _ _ _; rw [hw3]; exact (Fr.refl _ _).alloc _
  have Hr3 : Hid (∀ z, Fr w3 z (fun _ => False) → RdV z (.slice a2' m c2') E) := fun z hz => Hr2.out.keep (H23.out.none hz)
  have Hw3 : Hid (Fr w w3 (fun _ => False)) := Hf2.out.none H23.out
  clear hph hw3 Hr2
  have Hchk : Hid ((checkF n E).2 = 0) := by show _ = _; rw [HO.out.chk]
  obtain ⟨T, hT⟩ : ∃ t, t = timeF E ne := ⟨_, rfl⟩
  have HT : Hid (T = timeF E ne) := hT
  have HTb : Hid (-9223372036854775808 ≤ T ∧ T ≤ 9223372036854775807) := timeF_fit hT HO.out.times
  obtain ⟨X, hX⟩ : ∃ X, X = (atF n E T).1 := ⟨_, rfl⟩
  have HX : Hid (atF n E T = (X, 0)) := by
    show _ = _
    have h1 := at_err n E T
    rw [Hchk.out] at h1
    exact Prod.ext hX.symm h1
  have HXf : Hid (∀ e ∈ X, EgFit e) := by show ∀ e ∈ X, EgFit e; rw [hX]; exact after_fit HO.out.fit
  have HXl : Hid (X.length ≤ 40) := by show _ ≤ _; rw [hX]; exact Nat.le_trans (after_length n E _) HO.out.len
  have HXne : Hid (∀ e ∈ X, e.1 ≠ e.2) := by
    show ∀ e ∈ X, e.1 ≠ e.2
    intro e he
    rw [hX] at he
    unfold atF afterF at he
    rw [if_pos Hchk.out] at he
    rcases aft_mem _ _ e he with h | ⟨y, h, rfl⟩
    · cases h
    · have h1 := HO.out.right y (List.mem_of_mem_take h)
      unfold eRight at h1
      have := of_decide_eq_true h1
      omega
  clear hT hX
  obtain ⟨x0, hx0⟩ : ∃ x, x = w3.drew := ⟨_, rfl⟩
  have G0 : Hid (Fr w3 x0 (fun _ => False)) := by show Fr _ _ _; rw [hx0]; exact (Fr.refl _ _).drew
  go_wp2_with fail
  refine wp_region_tree (fun _ => False) (.take 0 (.take 1 (.take 2 (.one 3 (.one 4 (.take 5 (.take 6 (.take 7 (.take 8 (.take 9 .nil)))))))))) (by kernel_rfl) (by kernel_rfl) (by decide) (by kernel_rfl) ?_
  rw [← hx0]
  clear hx0
  have ka : ∀ z, Fr x0 z (fun _ => False) → z.cell? ⟨ph, 0, none⟩ = some (.int .u64 (n : Int)) := fun z hz => two_cell0 (Qh.out z (G0.out.none hz))
  have kb : ∀ z, Fr x0 z (fun _ => False) → z.cell? ⟨ph, 1, none⟩ = some (.slice a2' m c2') := fun z hz => two_cell1 (Qh.out z (G0.out.none hz))
  repeat (refine wpT_take (v := ?_) rfl rfl (fun x hx => ?_) ?_; rotate_left; (focus (go_simp; with_reducible rfl)); simp only [Act.put, List.setIfInBounds_toArray, List.set_cons_zero, List.set_cons_succ])
  clear ka kb
  refine wpT_one rfl rfl (fun K hK => ?_)
  go_simp
  refine (seatTime_any n _ E ne _ (Hr3.out x0 G0.out) (by have := HO.out.len; omega) HO.out.times Hne.out).mono ?_
  rw [← HT.out]
  rintro r x1 ⟨rfl, g⟩
  refine hK _ _ g ?_
  clear hK K
  have G1 : Hid (Fr w3 x1 (fun _ => False)) := G0.out.none g
  clear g
  try simp only [Act.put, List.setIfInBounds_toArray, List.set_cons_zero, List.set_cons_succ]
  refine wpT_one rfl rfl (fun K hK => ?_)
  go_simp
  refine (M.at_ n _ E T _ (Hr3.out x1 G1.out) HO.out.n64 (by have := HO.out.len; omega) HO.out.fit HTb.out.1 HTb.out.2).mono ?_
  rw [HX.out]
  rintro r x2 ⟨⟨vX, rfl, hvX⟩, g⟩
  refine hK _ _ g ?_
  clear hK K
  obtain ⟨aX, cX, rfl, hcX⟩ := hvX.form
  obtain ⟨K, hK⟩ : ∃ K, K = X.length := ⟨_, rfl⟩
  dsimp only at hvX hcX ⊢
  rw [← hK] at hvX hcX ⊢
  have HK : Hid (K = X.length) := hK
  have HrX : Hid (∀ z, Fr x2 z (fun _ => False) → RdE z (.slice aX K cX) X) := fun z hz => RdE.keep hvX hz
  have G2 : Hid (Fr w x2 (fun _ => False)) := Hw3.out.none (G1.out.none g)
  clear g hvX hK
  try simp only [Act.put, List.setIfInBounds_toArray, List.set_cons_zero, List.set_cons_succ]
  repeat (refine wpT_take (v := ?_) rfl rfl (fun x hx => ?_) ?_; rotate_left; (focus (go_simp; with_reducible rfl)); simp only [Act.put, List.setIfInBounds_toArray, List.set_cons_zero, List.set_cons_succ])
  unfold wpT
  go_wp2_with fail
  go_loopg [10, 11, 12] K (fun g V C I wr => ∃ (i c : Nat) (S : List Nat), g = K - i ∧ i ≤ K ∧ I = .int .i64 (i : Int) ∧ C = .int .i64 (c : Int) ∧ S = (ends2 (X.take i)).foldl addS [] ∧ c = (S.map (degF X)).sum ∧ OwnW wr V S ∧ (∀ k, V.ownBlock = some k → x2.heap.size ≤ k) ∧ Fr x2 wr (fun _ => False))
  case atStart => exact ⟨0, 0, [], by omega, by omega, rfl, rfl, rfl, rfl, OwnW.nil _, fun k hk => by simp [Value.ownBlock] at hk, Fr.refl _ _⟩
  case round =>
    obtain ⟨i, c, S, hg, hi, rfl, rfl, hS, hc, ho, hnw, hf⟩ := hrel
    obtain ⟨aS, lS, cS, rfl⟩ : ∃ a l c, u10 = .slice a l c := ho.reads.form
    have Hg : Hid _ := hg
    have HS : Hid (S = (ends2 (X.take i)).foldl addS []) := hS
    have Hc : Hid (c = (S.map (degF X)).sum) := hc
    have Ho : Hid (OwnW wr (.slice aS lS cS) S) := ho
    have Hnw : Hid (∀ k, (Value.slice aS lS cS).ownBlock = some k → x2.heap.size ≤ k) := hnw
    have Hf : Hid (Fr x2 wr (fun _ => False)) := hf
    have hk40 : K ≤ 40 := by rw [HK.out]; exact HXl.out
    clear hg hS hc ho hnw hf
    by_cases hlt : i < K
    · have hin : (i : Int) < (K : Int) := by omega
      have hin' : decide (i < K) = true := decide_eq_true hlt
      obtain ⟨⟨e1, e2⟩, ha⟩ : ∃ a, X[i]? = some a := ⟨_, List.getElem?_eq_getElem (by rw [← HK.out]; omega)⟩
      have Ha : Hid (X[i]? = some (e1, e2)) := ha
      obtain ⟨bk, off, cap, e3, hbk, hca⟩ := (HrX.out x2 (Fr.refl _ _)).get i _ ha
      rw [← HK.out] at e3
      simp only [Value.slice.injEq] at e3
      obtain ⟨rfl, -, rfl⟩ := e3
      obtain ⟨y0, hy0⟩ : ∃ x, x = wr.drew := ⟨_, rfl⟩
      have F0 : Hid (Fr x2 y0 (fun _ => False)) := by show Fr _ _ _; rw [hy0]; exact Hf.out.drew
      have Fw : Hid (Fr wr y0 (fun _ => False)) := by show Fr _ _ _; rw [hy0]; exact (Fr.refl _ _).drew
      have ka : ∀ z, Fr y0 z (fun _ => False) → z.cell? ⟨bk, off + i * 2, none⟩ = some (.int .u32 (e1 : Int)) := fun z hz => (hca z (F0.out.none hz)).1
      have kb : ∀ z, Fr y0 z (fun _ => False) → z.cell? ⟨bk, off + i * 2 + 1, none⟩ = some (.int .u32 (e2 : Int)) := fun z hz => (hca z (F0.out.none hz)).2
      have hi0 : (0 : Int) ≤ (i : Int) := by omega
      clear hca hbk ha
      go_wp2_with fail
      refine wp_region_tree (fun _ => False) (.take 0 (.take 1 (.take 2 (.take 3 (.take 4 (.take 5 (.take 6 (.take 7 (.take 8 (.take 9 (.take 12 (.one 10 (.take 11 .nil))))))))))))) (by kernel_rfl) (by kernel_rfl) (by decide) (by kernel_rfl) ?_
      rw [← hy0]
      clear hy0
      repeat (refine wpT_take (v := ?_) rfl rfl (fun x hx => ?_) ?_; rotate_left; (focus (go_simp; with_reducible rfl)); simp only [Act.put, List.setIfInBounds_toArray, List.set_cons_zero, List.set_cons_succ])
      clear ka kb
      refine wpT_one rfl rfl (fun K hK => ?_)
      go_simp
      refine hK _ _ ((Fr.refl y0 _).alloc _) ?_
      clear hK K
      obtain ⟨pV, hpV⟩ : ∃ p, p = y0.heap.size := ⟨_, rfl⟩
      obtain ⟨wb, hwb⟩ : ∃ x, x = y0.alloc (.cells #[.int .u32 (e1 : Int), .int .u32 (e2 : Int)] 46) := ⟨_, rfl⟩
      rw [← hwb, ← hpV]
      have QV : Hid (wb.heap[pV]? = some (.cells #[.int .u32 (e1 : Int), .int .u32 (e2 : Int)] 46 (0, 0))) := by show _ = _; rw [hwb, hpV]; exact heap_alloc_new _ _
      have Fb : Hid (Fr wr wb (fun _ => False)) := by show Fr _ _ _; rw [hwb]; exact Fw.out.alloc _
      have F2b : Hid (Fr x2 wb (fun _ => False)) := Hf.out.none Fb.out
      have HpV : Hid (wr.heap.size ≤ pV ∧ pV < wb.heap.size) := by
        have h1 := Fw.out.size
        have h2 := lt_of_block QV.out
        exact ⟨by omega, h2⟩
      have Hob : Hid (OwnW wb (.slice aS lS cS) S) := Ho.out.frame Fb.out (fun _ _ h => h)
      have Hnb : Hid (∀ k, (Value.slice aS lS cS).ownBlock = some k → x2.heap.size ≤ k ∧ k ≠ pV) := fun k hk => by
        have h1 := Hnw.out k hk
        have h2 := Ho.out.lt k hk
        have h3 := HpV.out
        exact ⟨h1, by omega⟩
      clear hpV hwb
      try simp only [Act.put, List.setIfInBounds_toArray, List.set_cons_zero, List.set_cons_succ]
      repeat (refine wpT_take (v := ?_) rfl rfl (fun x hx => ?_) ?_; rotate_left; (focus (go_simp; with_reducible rfl)); simp only [Act.put, List.setIfInBounds_toArray, List.set_cons_zero, List.set_cons_succ])
      unfold wpT
      go_wp2_with fail
      obtain ⟨wr0, hwr0⟩ : ∃ x, x = wr := ⟨_, rfl⟩
      subst hwr0
      go_loopg [10, 11, 51] 2 (fun g V C I wr => ∃ (j c : Nat) (S : List Nat), g = 2 - j ∧ j ≤ 2 ∧ I = .int .i64 (j : Int) ∧ C = .int .i64 (c : Int) ∧ S = (ends2 (X.take i) ++ [e1, e2].take j).foldl addS [] ∧ c = (S.map (degF X)).sum ∧ OwnW wr V S ∧ (∀ k, V.ownBlock = some k → x2.heap.size ≤ k ∧ k ≠ pV) ∧ Fr wb wr (fun k => x2.heap.size ≤ k ∧ k ≠ pV))
      case atStart => exact ⟨0, c, S, by omega, by omega, rfl, rfl, by rw [List.take_zero, List.append_nil]; exact HS.out, Hc.out, Hob.out, Hnb.out, Fr.refl _ _⟩
      case round =>
        obtain ⟨j, d, R, hg2, hj, rfl, rfl, hS2, hc2, ho2, hnw2, hf2⟩ := hrel
        obtain ⟨aR, lR, cR, rfl⟩ : ∃ a l c, u10 = .slice a l c := ho2.reads.form
        have Hg2 : Hid _ := hg2
        have HS2 : Hid (R = (ends2 (X.take i) ++ [e1, e2].take j).foldl addS []) := hS2
        have Hc2 : Hid (d = (R.map (degF X)).sum) := hc2
        have Ho2 : Hid (OwnW wr (.slice aR lR cR) R) := ho2
        have Hnw2 : Hid (∀ k, (Value.slice aR lR cR).ownBlock = some k → x2.heap.size ≤ k ∧ k ≠ pV) := hnw2
        have Hf2 : Hid (Fr wb wr (fun k => x2.heap.size ≤ k ∧ k ≠ pV)) := hf2
        have HRl : Hid (R.length ≤ 100) := by
          have h1 := adds_length (ends2 (X.take i) ++ [e1, e2].take j) []
          rw [← hS2, List.length_append, ends2_length, List.length_take, List.length_take] at h1
          simp only [List.length_nil, List.length_cons] at h1
          exact (by omega : R.length ≤ 100)
        have hdb : d ≤ 4000 := by
          have h1 := sum_le R (degF X) 40 (fun v => Nat.le_trans (deg_le X v) HXl.out)
          rw [← hc2] at h1
          have h2 := HRl.out
          omega
        have Hf2x : Hid (Fr x2 wr (fun _ => False)) := F2b.out.trans hf2 (fun k hk h => by omega)
        clear hg2 hS2 hc2 ho2 hnw2 hf2
        by_cases hlj : j < 2
        · have hjn : (j : Int) < 2 := by omega
          have hjn' : decide (j < 2) = true := decide_eq_true hlj
          obtain ⟨q, kq, hq, hqm⟩ : ∃ q : Nat, wr.cell? ⟨pV, j, none⟩ = some (.int .u32 (q : Int)) ∧ [e1, e2].take (j + 1) = [e1, e2].take j ++ [q] ∧ q < 4294967296 := by
            have h1 := Hf2.out.kept QV.out (fun h => h.2 rfl)
            have hef := HXf.out _ (List.mem_of_getElem? Ha.out)
            have hj2 : j = 0 ∨ j = 1 := by omega
            rcases hj2 with rfl | rfl
            · exact ⟨e1, two_cell0 h1, rfl, hef.1⟩
            · exact ⟨e2, two_cell1 h1, rfl, hef.2⟩
          have Hq : Hid ((ends2 (X.take i) ++ [e1, e2].take (j + 1)).foldl addS [] = addS R q) := by
            show _ = _
            rw [hq, ← List.append_assoc, List.foldl_append, ← HS2.out]
            rfl
          have Hqm : Hid _ := hqm
          have hj0 : (0 : Int) ≤ (j : Int) := by omega
          obtain ⟨B, hB⟩ : ∃ B, B = decide (q ∈ R) := ⟨_, rfl⟩
          have HB : Hid _ := hB
          clear hq hqm hB
          go_wp2_with fail
          refine (refIn_any _ R q _ Ho2.out.reads (by have := HRl.out; omega)).mono ?_
          rw [← HB.out]
          rintro r z1 ⟨rfl, g⟩
          have Z1 : Hid (Fr wr z1 (fun _ => False)) := g
          clear g kq
          cases B with
          | true =>
            have HadS : Hid (addS R q = R) := if_pos (of_decide_eq_true HB.out.symm)
            have Hf3 : Hid (Fr wb z1 (fun k => x2.heap.size ≤ k ∧ k ≠ pV)) := Hf2.out.trans Z1.out (fun _ _ h => h.elim)
            have Ho3 : Hid (OwnW z1 (.slice aR lR cR) R) := Ho2.out.frame Z1.out (fun _ _ h => h)
            go_wp2_with fail
            go_roundg (2 - (j + 1))
            case rel => exact ⟨j + 1, d, R, rfl, by omega, by go_num, rfl, by rw [Hq.out, HadS.out], Hc2.out, Ho3.out, Hnw2.out, Hf3.out⟩
            case measure => rw [Hg2.out]; omega
          | false =>
            have HadS : Hid (addS R q = R ++ [q]) := if_neg (of_decide_eq_false HB.out.symm)
            have Ho1 : Hid (OwnW z1 (.slice aR lR cR) R) := Ho2.out.frame Z1.out (fun _ _ h => h)
            obtain ⟨v5, w5, hrun5, ho5, hf5, hm5⟩ := app_vertex z1 (.slice aR lR cR) R q Ho1.out (by have := HRl.out; omega)
            have Z5 : Hid (Fr wr w5 (fun k => x2.heap.size ≤ k ∧ k ≠ pV)) := (Z1.out.mono (fun _ _ h => h.elim)).trans hf5 (fun k _ hk => Hnw2.out k hk)
            have Hn5 : Hid (∀ k, v5.ownBlock = some k → x2.heap.size ≤ k ∧ k ≠ pV) := fun k hk => by
              rcases hm5 k hk with h | h
              · exact Hnw2.out k h
              · have h1 := Hf2x.out.size
                have h2 := HpV.out
                have h3 := Hf2.out.size
                have h4 := Z1.out.size
                exact ⟨by omega, by omega⟩
            obtain ⟨D, hD⟩ : ∃ D, D = degF X q := ⟨_, rfl⟩
            have HD : Hid _ := hD
            have hDb : D ≤ 40 := by rw [hD]; exact Nat.le_trans (deg_le X q) HXl.out
            have Hsum : Hid (d + D = ((R ++ [q]).map (degF X)).sum) := by show _ = _; rw [List.map_append, List.sum_append, ← Hc2.out, hD]; simp
            have Ho5 : Hid (OwnW w5 v5 (R ++ [q])) := ho5
            have Z5x : Hid (Fr x2 w5 (fun _ => False)) := Hf2x.out.trans Z5.out (fun k hk h => by omega)
            clear ho5 hf5 hm5 hD
            go_wp2_with (at_builtin; refine wpList_append_run rfl (.tmp 59) (.tmp 61) 61 rfl rfl rfl hrun5 ?_)
            refine (M.degree _ X q _ (HrX.out w5 Z5x.out) (by have := HXl.out; omega) HXf.out Hqm.out).mono ?_
            rw [← HD.out]
            rintro r z6 ⟨rfl, g⟩
            have Hf3 : Hid (Fr wb z6 (fun k => x2.heap.size ≤ k ∧ k ≠ pV)) := (Hf2.out.trans Z5.out (fun _ _ h => h)).trans g (fun _ _ h => h.elim)
            have Ho3 : Hid (OwnW z6 v5 (R ++ [q])) := Ho5.out.frame g (fun _ _ h => h)
            clear g hrun5
            go_wp2_with fail
            go_roundg (2 - (j + 1))
            case rel => exact ⟨j + 1, d + D, R ++ [q], rfl, by omega, by go_num, by go_num, by rw [Hq.out, HadS.out], Hsum.out, Ho3.out, Hn5.out, Hf3.out⟩
            case measure => rw [Hg2.out]; omega
        · have hjn : ¬ (j : Int) < 2 := by omega
          have hjn' : decide (j < 2) = false := decide_eq_false hlj
          have hj2 : j = 2 := by omega
          have HS3 : Hid (R = (ends2 (X.take (i + 1))).foldl addS []) := by show _ = _; rw [ends2_take Ha.out, HS2.out, hj2]; rfl
          have Hn3 : Hid (∀ k, (Value.slice aR lR cR).ownBlock = some k → x2.heap.size ≤ k) := fun k hk => (Hnw2.out k hk).1
          clear hj2
          go_wp2_with fail
          go_roundg (K - (i + 1))
          case rel => exact ⟨i + 1, d, R, rfl, by omega, by go_num, rfl, HS3.out, Hc2.out, Ho2.out, Hn3.out, Hf2x.out⟩
          case measure => rw [Hg.out]; omega
    · have hin : ¬ (i : Int) < (K : Int) := by omega
      have hin' : decide (i < K) = false := decide_eq_false hlt
      have hcK : c = 2 * K := by
        rw [Hc.out, HS.out, List.take_of_length_le (by rw [← HK.out]; omega), deg_all HXne.out, ← HK.out]
      have Hfo : Hid (Fr w wr (fun _ => False)) := G2.out.none Hf.out
      have hw2 : wrap64 (2 * (K : Int)) = ((2 * K : Nat) : Int) := by rw [IntWalk.wrap64_in _ (by omega)]; omega
      subst hcK
      have e2 : (((2 * K : Nat) : Int) == ((2 * K : Nat) : Int)) = true := by simp
      have e3 : (((2 * K : Nat) : Int) == 2 * (K : Int)) = true := by simp
      clear Hc
      go_wp2
      go_ret
      exact ⟨by first | rfl | simp, ebelow Hfo.out⟩

end Go.Proofs.Ythdlhdeaeaahoaa.snapDegrees
