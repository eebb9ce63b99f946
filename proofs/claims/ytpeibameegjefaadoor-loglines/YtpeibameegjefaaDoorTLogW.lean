/-
  The contract of the reference's PrintLog.
-/
import Derived.Test.YtpeibameegjefaaDoorTLogP
import Derived.Test.YtpeibameegjefaaDoorJ1
import Derived.Test.YtpeibameegjefaaDoorJ2
namespace Go.Proofs.YtpeibameegjefaaDoor
open Go.RowKit

set_option maxRecDepth 4000 in
set_option maxHeartbeats 3200000 in
theorem refPrintLog_any (n : Nat) (v : Value) (evs : List Ev) (w : World) (h : RdV w v evs) (hn : n < 18446744073709551616) (hl : evs.length ≤ 100000) (hfit : ∀ x ∈ evs, EvFit x) : Calls Tryd.prog 13 #[histV n v] w fun r w' => r = .returned (.tuple #[.string (prLog n evs), .int .i64 ((checkF n evs).2 : Int)]) ∧ Fr w w' (fun _ => False) := by
  have hck := fun z hz => refCheck_any n v evs z hz (by omega) hfit
  obtain ⟨a0, c0, rfl, hc0⟩ := h.form
  obtain ⟨m, hm⟩ : ∃ m, m = evs.length := ⟨_, rfl⟩
  rw [← hm] at h hl hc0 hck ⊢
  obtain ⟨⟨C1, C2⟩, hC⟩ : ∃ C, C = checkF n evs := ⟨_, rfl⟩
  obtain ⟨P, hP⟩ : ∃ P, P = prLog n evs := ⟨_, rfl⟩
  rw [← hP]
  rw [← hC] at hck ⊢
  have HC : Hid _ := hC
  have HP : Hid _ := hP
  have Hr : Hid (RdV w (.slice a0 m c0) evs) := h
  have Hm : Hid _ := hm
  have Hl : Hid _ := hl
  unfold histV at hck ⊢
  dsimp only at hck ⊢
  clear h hm hC hP hfit
  go_enter Tryd.func13, Tryd.ntmps13
  go_upto_region 1 with fail
  obtain ⟨p, hp⟩ : ∃ p, p = w.heap.size := ⟨_, rfl⟩
  obtain ⟨w1, hw1⟩ : ∃ x, x = w.alloc (.cells #[.int .u64 (n : Int), .slice a0 m c0] 25) := ⟨_, rfl⟩
  rw [← hw1, ← hp]
  have Hp : Hid (w1.heap[p]? = some (.cells #[.int .u64 (n : Int), .slice a0 m c0] 25 (0, 0))) := by show _ = _; rw [hw1, hp]; exact heap_alloc_new _ _
  have Hf1 : Hid (Fr w w1 (fun _ => False)) := by show Fr _ _ _; rw [hw1]; exact (Fr.refl _ _).alloc _
  clear hw1 hp
  obtain ⟨ca, cb⟩ : w1.cell? ⟨p, 0, none⟩ = some (.int .u64 (n : Int)) ∧ w1.cell? ⟨p, 1, none⟩ = some (.slice a0 m c0) := ⟨two_cell0 Hp.out, two_cell1 Hp.out⟩
  have hck1 := hck w1 (Hr.out.keep Hf1.out)
  clear hck
  go_wp2_with fail
  refine hck1.mono ?_
  rintro r x1 ⟨rfl, g⟩
  have Hp1 : Hid (∀ z, Fr x1 z (fun _ => False) → z.heap[p]? = some (.cells #[.int .u64 (n : Int), .slice a0 m c0] 25 (0, 0))) := fun z hz => hz.kept (g.kept Hp.out (fun h => h)) (fun h => h)
  have Hx1 : Hid (Fr w x1 (fun _ => False)) := Hf1.out.none g
  clear g hck1 ca cb
  by_cases h0 : C2 = 0
  case neg =>
    have hC0 : ((C2 : Int) == 0) = false := by rw [beq_eq_false_iff_ne]; omega
    have hC1 : ((C2 : Int) != 0) = true := by rw [bne_iff_ne]; omega
    have HPP : Hid (P = ⟨#[]⟩) := by show _ = _; rw [HP.out]; exact if_neg (by rw [← HC.out]; exact h0)
    obtain rfl := HPP.out
    clear h0
    go_wp2
    go_ret2
    exact ⟨rfl, Hx1.out⟩
  subst h0
  have HPP : Hid (P = strOf (logL n evs)) := by show _ = _; rw [HP.out]; exact if_pos (by rw [← HC.out])
  obtain ⟨hnN, -, hgd, -⟩ := good_check (n := n) (evs := evs) (by rw [← HC.out])
  have HnN : Hid _ := hnN
  have Hin : Hid (∀ x ∈ evs, EvIn x) := fun x hx => by
    obtain ⟨h1, h2, h3⟩ := good_times hgd x hx
    unfold eRight at h3
    rw [decide_eq_true_iff] at h3
    exact ⟨h1, h2, by show _ ≤ 4294967295; omega, by show _ ≤ 4294967295; omega⟩
  clear hgd
  obtain ⟨ca, cb⟩ : x1.cell? ⟨p, 0, none⟩ = some (.int .u64 (n : Int)) ∧ x1.cell? ⟨p, 1, none⟩ = some (.slice a0 m c0) := ⟨two_cell0 (Hp1.out x1 (Fr.refl _ _)), two_cell1 (Hp1.out x1 (Fr.refl _ _))⟩
  have hd := refDecimal_any n x1 hn
  have hdl : (strOf (decL n)).size ≤ 20 := by rw [strOf_length]; exact decL_len20 n hn
  obtain ⟨D, hD⟩ : ∃ D, D = strOf (decL n) := ⟨_, rfl⟩
  rw [← hD] at hd hdl
  have HD : Hid _ := hD
  have n1 : ¬ 9223372036854775807 < 4 + D.size := by omega
  have n2 : ¬ 9223372036854775807 < 4 + D.size + 1 := by omega
  clear hD hnN
  go_wp2_with fail
  refine hd.mono ?_
  rintro r x2 ⟨rfl, g⟩
  have Hx12 : Hid (Fr x1 x2 (fun _ => False)) := g
  clear g hd ca cb
  go_wp2_with fail
  have HS0 : Hid ((⟨#[108, 111, 103, 32]⟩ : ByteArray) ++ D ++ ⟨#[10]⟩ = strOf (logL n (evs.take 0))) := by show _ = _; rw [HD.out, logL_head]; rfl
  have HL0 : Hid ((strOf (logL n (evs.take 0))).size ≤ 30) := by show _ ≤ _; rw [strOf_length]; exact logL_len0 n (by have := HnN.out; omega)
  clear n1 n2 hdl
  go_loopg [6, 7] m (fun g S I wr => ∃ (i : Nat) (B : ByteArray), g = m - i ∧ i ≤ m ∧ I = .int .i64 (i : Int) ∧ S = .string B ∧ B = strOf (logL n (evs.take i)) ∧ B.size ≤ 30 + 70 * i ∧ Fr x1 wr (fun _ => False))
  case atStart => exact ⟨0, _, by omega, by omega, rfl, rfl, HS0.out, by rw [HS0.out]; exact HL0.out, Hx12.out⟩
  case round =>
    obtain ⟨i, B, hg, hi, rfl, rfl, hB, hBs, hf⟩ := hrel
    have Hg : Hid _ := hg
    have HB : Hid _ := hB
    have Hf : Hid (Fr x1 wr (fun _ => False)) := hf
    clear hg hB hf
    obtain ⟨ca, cb⟩ : wr.cell? ⟨p, 0, none⟩ = some (.int .u64 (n : Int)) ∧ wr.cell? ⟨p, 1, none⟩ = some (.slice a0 m c0) := ⟨two_cell0 (Hp1.out wr Hf.out), two_cell1 (Hp1.out wr Hf.out)⟩
    by_cases hlt : i < m
    · have hin : (i : Int) < (m : Int) := by omega
      have hin' : decide (i < m) = true := decide_eq_true hlt
      have hi0 : (0 : Int) ≤ (i : Int) := by omega
      obtain ⟨X, hX⟩ : ∃ a, evs[i]? = some a := ⟨_, List.getElem?_eq_getElem (by rw [← Hm.out]; omega)⟩
      have hXin := Hin.out X (List.mem_of_getElem? hX)
      have hstep := logL_step (n := n) hX
      have hlen := lineL_len hXin
      have hline := line_str (logL n (evs.take i)) X
      rw [← hstep, ← HB.out] at hline
      obtain ⟨bk, off, cap, e3, hbk, hca⟩ := (Hr.out.keep Hx1.out).get i _ hX
      rw [← Hm.out] at e3
      simp only [Value.slice.injEq] at e3
      obtain ⟨rfl, -, rfl⟩ := e3
      obtain ⟨k0, k1, k2, k3⟩ := hca wr (Hf.out.mono (fun _ _ h => h.elim))
      obtain ⟨t, ⟨u, vv⟩, ad⟩ := X
      obtain ⟨h1, h2, h3, h4⟩ := hXin
      have h3' : u ≤ 4294967295 := h3
      have h4' : vv ≤ 4294967295 := h4
      dsimp only at k0 k1 k2 k3 h1 h2 hline
      obtain ⟨tn, rfl⟩ : ∃ k : Nat, t = (k : Int) := ⟨t.toNat, by omega⟩
      rw [Int.toNat_natCast] at hline
      have w1 : IntKind.u64.wrap (tn : Int) = (tn : Int) := by rw [IntKind.wrap_u64]; omega
      have w2 : IntKind.u64.wrap (u : Int) = (u : Int) := by rw [IntKind.wrap_u64]; omega
      have w3 : IntKind.u64.wrap (vv : Int) = (vv : Int) := by rw [IntKind.wrap_u64]; omega
      have d1 := fun z => refDecimal_any tn z (by omega)
      have d2 := fun z => refDecimal_any u z (by omega)
      have d3 := fun z => refDecimal_any vv z (by omega)
      have l1 : (strOf (decL tn)).size ≤ 20 := by rw [strOf_length]; exact decL_len20 tn (by omega)
      have l2 : (strOf (decL u)).size ≤ 20 := by rw [strOf_length]; exact decL_len20 u (by omega)
      have l3 : (strOf (decL vv)).size ≤ 20 := by rw [strOf_length]; exact decL_len20 vv (by omega)
      have Hlast : Hid (B.size + (lineL ((tn : Int), (u, vv), ad)).length ≤ 30 + 70 * (i + 1)) := by show _ ≤ _; omega
      have Hz : Hid ((strOf (logL n (evs.take (i + 1)))).size = B.size + (lineL ((tn : Int), (u, vv), ad)).length) := by show _ = _; rw [strOf_length, hstep, List.length_append, HB.out, strOf_length]
      obtain ⟨D1, hD1⟩ : ∃ D, D = strOf (decL tn) := ⟨_, rfl⟩
      obtain ⟨D2, hD2⟩ : ∃ D, D = strOf (decL u) := ⟨_, rfl⟩
      obtain ⟨D3, hD3⟩ : ∃ D, D = strOf (decL vv) := ⟨_, rfl⟩
      rw [← hD1] at d1 l1 hline
      rw [← hD2] at d2 l2 hline
      rw [← hD3] at d3 l3 hline
      have hi5 : i ≤ 100000 := by have := Hl.out; omega
      have s1 : ¬ 9223372036854775807 < B.size + D1.size := by omega
      have s2 : ¬ 9223372036854775807 < B.size + D1.size + 3 := by omega
      have s3 : ¬ 9223372036854775807 < B.size + D1.size + 3 + D2.size := by omega
      have s4 : ¬ 9223372036854775807 < B.size + D1.size + 3 + D2.size + 1 := by omega
      have s5 : ¬ 9223372036854775807 < B.size + D1.size + 3 + D2.size + 1 + D3.size := by omega
      have s6 : ¬ 9223372036854775807 < B.size + D1.size + 3 + D2.size + 1 + D3.size + 1 := by omega
      have Hline : Hid _ := hline
      clear hca hX hbk hstep hlen hline hD1 hD2 hD3 h1 h2 h3 h4 h3' h4'
      go_upto_region 9 with fail
      obtain ⟨q, hq⟩ : ∃ q, q = wr.heap.size := ⟨_, rfl⟩
      obtain ⟨wE, hwE⟩ : ∃ x, x = wr.alloc (.cells #[.int .i64 (tn : Int), .int .u32 (u : Int), .int .u32 (vv : Int), .bool ad] 61) := ⟨_, rfl⟩
      rw [← hwE, ← hq]
      have HE : Hid (∀ z, Fr wE z (fun _ => False) → z.heap[q]? = some (.cells #[.int .i64 (tn : Int), .int .u32 (u : Int), .int .u32 (vv : Int), .bool ad] 61 (0, 0))) := fun z hz => hz.kept (by rw [hwE, hq]; exact heap_alloc_new _ _) (fun h => h)
      have HfE : Hid (Fr x1 wE (fun _ => False)) := by show Fr _ _ _; rw [hwE]; exact Hf.out.alloc _
      clear hwE hq k0 k1 k2 k3 ca cb
      obtain ⟨-, -, -, k3⟩ := four_cells (HE.out wE (Fr.refl _ _))
      cases ad with
      | false =>
        have Hsg : Hid (strOf [32, sgB false, 32] = ⟨#[32, 45, 32]⟩) := rfl
        go_upto_region 12 with fail
        have fd : Fr wE wE.drew (fun _ => False) := (Fr.refl _ _).drew
        have c0' : ∀ z, Fr wE.drew z (fun _ => False) → z.cell? ⟨q, 0, none⟩ = some (.int .i64 (tn : Int)) := fun z hz => (four_cells (HE.out z (fd.none hz))).1
        have c1' : ∀ z, Fr wE.drew z (fun _ => False) → z.cell? ⟨q, 1, none⟩ = some (.int .u32 (u : Int)) := fun z hz => (four_cells (HE.out z (fd.none hz))).2.1
        have c2' : ∀ z, Fr wE.drew z (fun _ => False) → z.cell? ⟨q, 2, none⟩ = some (.int .u32 (vv : Int)) := fun z hz => (four_cells (HE.out z (fd.none hz))).2.2.1
        have HfD : Hid (Fr x1 wE.drew (fun _ => False)) := HfE.out.none fd
        clear fd k3
        refine wp_region_tree (fun _ => False) (.take 0 (.take 1 (.take 2 (.take 3 (.take 6 (.take 8 (.take 9 (.take 10 (.take 11 (.take 15 (.take 16 (.take 17 (.take 18 (.one 4 (.take 5 (.take 7 (.one 12 (.take 13 (.take 14 (.one 19 (.take 20 (.take 21 (.take 22 .nil))))))))))))))))))))))) (by kernel_rfl) (by kernel_rfl) (by decide) (by kernel_rfl) ?_
        iterate 13 (refine wpT_take (v := ?_) rfl rfl (fun x hx => ?_) ?_; rotate_left; (focus (go_simp; with_reducible rfl)); simp only [Act.put, List.setIfInBounds_toArray, List.set_cons_zero, List.set_cons_succ])
        refine wpT_one rfl rfl (fun K hK => ?_)
        go_simp
        refine (d1 _).mono ?_
        rintro r y1 ⟨rfl, g⟩
        refine hK _ _ g ?_
        have Hy1 : Hid (Fr x1 y1 (fun _ => False)) := HfD.out.none g
        clear hK K g d1 c0' c1' c2'
        iterate 2 (refine wpT_take (v := ?_) rfl rfl (fun x hx => ?_) ?_; rotate_left; (focus (go_simp; with_reducible rfl)); simp only [Act.put, List.setIfInBounds_toArray, List.set_cons_zero, List.set_cons_succ])
        refine wpT_one rfl rfl (fun K hK => ?_)
        go_simp
        refine (d2 _).mono ?_
        rintro r y2 ⟨rfl, g⟩
        refine hK _ _ g ?_
        have Hy2 : Hid (Fr x1 y2 (fun _ => False)) := Hy1.out.none g
        clear hK K g d2
        iterate 2 (refine wpT_take (v := ?_) rfl rfl (fun x hx => ?_) ?_; rotate_left; (focus (go_simp; with_reducible rfl)); simp only [Act.put, List.setIfInBounds_toArray, List.set_cons_zero, List.set_cons_succ])
        refine wpT_one rfl rfl (fun K hK => ?_)
        go_simp
        refine (d3 _).mono ?_
        rintro r y3 ⟨rfl, g⟩
        refine hK _ _ g ?_
        have Hy3 : Hid (Fr x1 y3 (fun _ => False)) := Hy2.out.none g
        clear hK K g d3
        iterate 3 (refine wpT_take (v := ?_) rfl rfl (fun x hx => ?_) ?_; rotate_left; (focus (go_simp; with_reducible rfl)); simp only [Act.put, List.setIfInBounds_toArray, List.set_cons_zero, List.set_cons_succ])
        unfold wpT
        have hnew := Hline.out
        rw [Hsg.out] at hnew
        have Hnew : Hid _ := hnew
        clear hnew s1 s2 s3 s4 s5 s6
        go_wp2_with fail
        go_roundg (m - (i + 1))
        case rel => exact ⟨i + 1, _, rfl, by omega, by go_num, rfl, Hnew.out, by rw [Hnew.out, Hz.out]; exact Hlast.out, Hy3.out⟩
        case measure => rw [Hg.out]; omega
      | true =>
        have Hsg : Hid (strOf [32, sgB true, 32] = ⟨#[32, 43, 32]⟩) := rfl
        go_upto_region 12 with fail
        have fd : Fr wE wE.drew (fun _ => False) := (Fr.refl _ _).drew
        have c0' : ∀ z, Fr wE.drew z (fun _ => False) → z.cell? ⟨q, 0, none⟩ = some (.int .i64 (tn : Int)) := fun z hz => (four_cells (HE.out z (fd.none hz))).1
        have c1' : ∀ z, Fr wE.drew z (fun _ => False) → z.cell? ⟨q, 1, none⟩ = some (.int .u32 (u : Int)) := fun z hz => (four_cells (HE.out z (fd.none hz))).2.1
        have c2' : ∀ z, Fr wE.drew z (fun _ => False) → z.cell? ⟨q, 2, none⟩ = some (.int .u32 (vv : Int)) := fun z hz => (four_cells (HE.out z (fd.none hz))).2.2.1
        have HfD : Hid (Fr x1 wE.drew (fun _ => False)) := HfE.out.none fd
        clear fd k3
        refine wp_region_tree (fun _ => False) (.take 0 (.take 1 (.take 2 (.take 3 (.take 6 (.take 8 (.take 9 (.take 10 (.take 11 (.take 15 (.take 16 (.take 17 (.take 18 (.one 4 (.take 5 (.take 7 (.one 12 (.take 13 (.take 14 (.one 19 (.take 20 (.take 21 (.take 22 .nil))))))))))))))))))))))) (by kernel_rfl) (by kernel_rfl) (by decide) (by kernel_rfl) ?_
        iterate 13 (refine wpT_take (v := ?_) rfl rfl (fun x hx => ?_) ?_; rotate_left; (focus (go_simp; with_reducible rfl)); simp only [Act.put, List.setIfInBounds_toArray, List.set_cons_zero, List.set_cons_succ])
        refine wpT_one rfl rfl (fun K hK => ?_)
        go_simp
        refine (d1 _).mono ?_
        rintro r y1 ⟨rfl, g⟩
        refine hK _ _ g ?_
        have Hy1 : Hid (Fr x1 y1 (fun _ => False)) := HfD.out.none g
        clear hK K g d1 c0' c1' c2'
        iterate 2 (refine wpT_take (v := ?_) rfl rfl (fun x hx => ?_) ?_; rotate_left; (focus (go_simp; with_reducible rfl)); simp only [Act.put, List.setIfInBounds_toArray, List.set_cons_zero, List.set_cons_succ])
        refine wpT_one rfl rfl (fun K hK => ?_)
        go_simp
        refine (d2 _).mono ?_
        rintro r y2 ⟨rfl, g⟩
        refine hK _ _ g ?_
        have Hy2 : Hid (Fr x1 y2 (fun _ => False)) := Hy1.out.none g
        clear hK K g d2
        iterate 2 (refine wpT_take (v := ?_) rfl rfl (fun x hx => ?_) ?_; rotate_left; (focus (go_simp; with_reducible rfl)); simp only [Act.put, List.setIfInBounds_toArray, List.set_cons_zero, List.set_cons_succ])
        refine wpT_one rfl rfl (fun K hK => ?_)
        go_simp
        refine (d3 _).mono ?_
        rintro r y3 ⟨rfl, g⟩
        refine hK _ _ g ?_
        have Hy3 : Hid (Fr x1 y3 (fun _ => False)) := Hy2.out.none g
        clear hK K g d3
        iterate 3 (refine wpT_take (v := ?_) rfl rfl (fun x hx => ?_) ?_; rotate_left; (focus (go_simp; with_reducible rfl)); simp only [Act.put, List.setIfInBounds_toArray, List.set_cons_zero, List.set_cons_succ])
        unfold wpT
        have hnew := Hline.out
        rw [Hsg.out] at hnew
        have Hnew : Hid _ := hnew
        clear hnew s1 s2 s3 s4 s5 s6
        go_wp2_with fail
        go_roundg (m - (i + 1))
        case rel => exact ⟨i + 1, _, rfl, by omega, by go_num, rfl, Hnew.out, by rw [Hnew.out, Hz.out]; exact Hlast.out, Hy3.out⟩
        case measure => rw [Hg.out]; omega
    · have hin : ¬ (i : Int) < (m : Int) := by omega
      have hin' : decide (i < m) = false := decide_eq_false hlt
      obtain rfl : i = m := by omega
      have HBP : Hid (B = P) := by show _ = _; rw [HB.out, HPP.out, List.take_of_length_le (by rw [← Hm.out]; exact Nat.le_refl _)]
      obtain rfl := HBP.out
      have Hfo : Hid (Fr w wr (fun _ => False)) := Hx1.out.none Hf.out
      go_wp2_with fail
      go_ret2
      exact ⟨rfl, Hfo.out⟩

end Go.Proofs.YtpeibameegjefaaDoor
