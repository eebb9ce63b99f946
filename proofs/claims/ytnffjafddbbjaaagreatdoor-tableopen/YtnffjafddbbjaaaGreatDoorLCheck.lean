/-
  The contract of the reference's LifeCheck.
-/
import Derived.Test.YtnffjafddbbjaaaGreatDoorJ3
import Derived.Test.YtnffjafddbbjaaaGreatDoorJ2
namespace Go.Proofs.YtnffjafddbbjaaaGreatDoor
open Go.RowKit

set_option maxRecDepth 4000 in
set_option maxHeartbeats 3200000 in
theorem refLifeCheck_any (n : Nat) (v : Value) (l : List Lf) (w : World) (h : RdL w v l) (hl : l.length ≤ 1000000) (hfit : ∀ x ∈ l, LfFit x) : Calls Tryz.prog 46 #[.int .u64 (n : Int), v] w fun r w' => r = .returned (.tuple #[.int .i64 ((lifeCheckF n l).1 : Int), .int .i64 ((lifeCheckF n l).2 : Int)]) ∧ Fr w w' (fun _ => False) := by
  obtain ⟨a0, c0, rfl, hc0⟩ := h.form
  obtain ⟨m, hm⟩ : ∃ m, m = l.length := ⟨_, rfl⟩
  rw [← hm] at h hl hc0 ⊢
  obtain ⟨⟨R1, R2⟩, hR⟩ : ∃ R, R = lifeCheckF n l := ⟨_, rfl⟩
  rw [← hR]
  have HR : Hid _ := hR
  have Hr : Hid (RdL w (.slice a0 m c0) l) := h
  have Hm : Hid _ := hm
  have Hfit : Hid _ := hfit
  clear h hm hR hfit
  dsimp only
  go_enter Tryz.func46, Tryz.ntmps46
  go_wp2_with fail
  go_loopg [6, 7] m (fun g C I wr => ∃ i c : Nat, g = m - i ∧ i ≤ m ∧ I = .int .i64 (i : Int) ∧ C = .int .i64 (c : Int) ∧ c ≤ 2 * i ∧ wr = w)
  case atStart => exact ⟨0, 0, by omega, by omega, rfl, rfl, by omega, rfl⟩
  case round =>
    obtain ⟨i, c, hg, hi, rfl, rfl, hc, rfl⟩ := hrel
    have Hg : Hid _ := hg
    clear hg
    by_cases hlt : i < m
    · have hin : (i : Int) < (m : Int) := by omega
      have hin' : decide (i < m) = true := decide_eq_true hlt
      obtain ⟨⟨⟨e1, e2⟩, s, q⟩, ha⟩ : ∃ a, l[i]? = some a := ⟨_, List.getElem?_eq_getElem (by rw [← Hm.out]; omega)⟩
      obtain ⟨bk, off, cap, e3, hbk, hca⟩ := Hr.out.get i _ ha
      simp only [Value.slice.injEq] at e3
      obtain ⟨rfl, -, rfl⟩ := e3
      have k3 := (hca wr (Fr.refl _ _)).2.2.2
      have hi0 : (0 : Int) ≤ (i : Int) := by omega
      clear hca ha hbk
      by_cases hq : 0 ≤ q
      · have d1 : decide (0 ≤ q) = true := decide_eq_true hq
        clear hq
        go_wp2_with fail
        go_roundg (m - (i + 1))
        case rel => exact ⟨i + 1, c + 2, rfl, by omega, by go_num, by go_num, by omega, rfl⟩
        case measure => rw [Hg.out]; omega
      · have d1 : decide (0 ≤ q) = false := decide_eq_false hq
        clear hq
        go_wp2_with fail
        go_roundg (m - (i + 1))
        case rel => exact ⟨i + 1, c + 1, rfl, by omega, by go_num, by go_num, by omega, rfl⟩
        case measure => rw [Hg.out]; omega
    have hin : ¬ (i : Int) < (m : Int) := by omega
    have hin' : decide (i < m) = false := decide_eq_false hlt
    have d2 : decide ((2147483648 : Int) < (c : Int)) = false := decide_eq_false (by omega)
    have d2' : decide (2147483648 < c) = false := decide_eq_false (by omega)
    by_cases hn : 4294967296 < n
    · have d1 : decide ((4294967296 : Int) < (n : Int)) = true := decide_eq_true (by omega)
      have d1' : decide (4294967296 < n) = true := decide_eq_true hn
      have Hres : Hid ((R1, R2) = (0, 26)) := by show _ = _; rw [HR.out]; unfold lifeCheckF; exact if_pos hn
      clear hn
      go_wp2
      go_ret2
      simp only [Prod.mk.injEq] at Hres
      obtain ⟨rfl, rfl⟩ := Hres.out
      exact ⟨rfl, Fr.refl _ _⟩
    have d1 : decide ((4294967296 : Int) < (n : Int)) = false := decide_eq_false (by omega)
    have d1' : decide (4294967296 < n) = false := decide_eq_false hn
    have Hst : Hid (lchkF n none 0 l = (R1, R2)) := by show _ = _; rw [HR.out]; unfold lifeCheckF; rw [if_neg hn]
    clear hn HR
    go_wp2_with fail
    clear hin hin' d1 d1' d2 d2' hlt
    obtain ⟨w0, rfl⟩ : ∃ x, x = wr := ⟨_, rfl⟩
    go_loopg [8] m (fun g I wx => ∃ i : Nat, g = m - i ∧ i ≤ m ∧ I = .int .i64 (i : Int) ∧ lchkF n (prevL l i) i (l.drop i) = (R1, R2) ∧ Fr w0 wx (fun _ => False))
    case atStart => exact ⟨0, by omega, by omega, rfl, Hst.out, Fr.refl _ _⟩
    case round =>
      obtain ⟨i, hg, hi, rfl, hst, hf⟩ := hrel
      have Hg : Hid _ := hg
      have Hs : Hid _ := hst
      have Hf : Hid (Fr w0 wr (fun _ => False)) := hf
      clear hg hst hf
      by_cases hlt : i < m
      · have hin : (i : Int) < (m : Int) := by omega
        have hin' : decide (i < m) = true := decide_eq_true hlt
        obtain ⟨⟨⟨e1, e2⟩, s, q⟩, ha⟩ : ∃ a, l[i]? = some a := ⟨_, List.getElem?_eq_getElem (by rw [← Hm.out]; omega)⟩
        have Ha : Hid _ := ha
        have Hx : Hid (LfFit ((e1, e2), s, q)) := Hfit.out _ (List.mem_of_getElem? ha)
        have Hst : Hid (lchkF n (prevL l i) i (((e1, e2), s, q) :: l.drop (i + 1)) = (R1, R2)) := by
          show _ = _
          rw [← Hs.out]
          rw [drop_at ha]
        obtain ⟨bk, off, cap, e3, hbk, hca⟩ := Hr.out.get i _ ha
        simp only [Value.slice.injEq] at e3
        obtain ⟨rfl, -, rfl⟩ := e3
        obtain ⟨k0, k1, k2, k3⟩ := hca wr (Hf.out.mono (fun _ _ h => h.elim))
        have hi0 : (0 : Int) ≤ (i : Int) := by omega
        clear hca ha hbk Hs
        go_upto_region 14 with fail
        obtain ⟨pe, hpe⟩ : ∃ p, p = wr.heap.size := ⟨_, rfl⟩
        obtain ⟨wE, hwE⟩ : ∃ x, x = wr.alloc (.cells #[.int .u32 (e1 : Int), .int .u32 (e2 : Int), .int .i64 s, .int .i64 q] 82) := ⟨_, rfl⟩
        rw [← hwE, ← hpe]
        have Hpe : Hid (∀ z, Fr wE z (fun _ => False) → z.heap[pe]? = some (.cells #[.int .u32 (e1 : Int), .int .u32 (e2 : Int), .int .i64 s, .int .i64 q] 82 (0, 0))) := fun z hz => hz.kept (by rw [hwE, hpe]; exact heap_alloc_new _ _) (fun h => h)
        have HfE : Hid (Fr w0 wE (fun _ => False)) := by show Fr _ _ _; rw [hwE]; exact Hf.out.alloc _
        clear k0 k1 k2 k3 hwE hpe
        obtain ⟨k0, k1, k2, k3⟩ := four_cells (Hpe.out wE (Fr.refl _ _))
        by_cases ht : s < 0
        · have d3 : decide (s < 0) = true := decide_eq_true ht
          have Hres : Hid ((R1, R2) = (i, 26)) := by show _ = _; rw [← Hst.out]; exact lchk_limit (.inl ht)
          clear ht
          go_wp2
          go_ret2
          simp only [Prod.mk.injEq] at Hres
          obtain ⟨rfl, rfl⟩ := Hres.out
          exact ⟨rfl, HfE.out⟩
        have d3 : decide (s < 0) = false := decide_eq_false ht
        by_cases ht2 : 4611686018427387903 < s
        · have d4 : decide (4611686018427387903 < s) = true := decide_eq_true ht2
          have Hres : Hid ((R1, R2) = (i, 26)) := by show _ = _; rw [← Hst.out]; exact lchk_limit (.inr (.inl ht2))
          clear ht ht2
          go_wp2
          go_ret2
          simp only [Prod.mk.injEq] at Hres
          obtain ⟨rfl, rfl⟩ := Hres.out
          exact ⟨rfl, HfE.out⟩
        have d4 : decide (4611686018427387903 < s) = false := decide_eq_false ht2
        by_cases ht3 : 4611686018427387903 < q
        · have d5 : decide (4611686018427387903 < q) = true := decide_eq_true ht3
          have Hres : Hid ((R1, R2) = (i, 26)) := by show _ = _; rw [← Hst.out]; exact lchk_limit (.inr (.inr ht3))
          clear ht ht2 ht3
          go_wp2
          go_ret2
          simp only [Prod.mk.injEq] at Hres
          obtain ⟨rfl, rfl⟩ := Hres.out
          exact ⟨rfl, HfE.out⟩
        have d5 : decide (4611686018427387903 < q) = false := decide_eq_false ht3
        have Hlim : Hid (¬ (s < 0 ∨ 4611686018427387903 < s ∨ 4611686018427387903 < q)) := by show ¬ _; omega
        obtain ⟨B1, hB1⟩ : ∃ B, B = eRight e1 e2 n := ⟨_, rfl⟩
        have HB1 : Hid _ := hB1
        clear ht ht2 ht3 hB1
        go_wp2_with fail
        refine (refRight8_any e1 e2 n _ Hx.out.1.2).mono ?_
        rw [← HB1.out]
        rintro r x1 ⟨rfl, g⟩
        have G1 : Hid (Fr wE x1 (fun _ => False)) := g
        clear g k0 k1 k2 k3
        cases B1 with
        | false =>
          have Hres : Hid ((R1, R2) = (i, 24)) := by show _ = _; rw [← Hst.out]; exact lchk_vertex Hlim.out HB1.out.symm
          have Hfo : Hid (Fr w0 x1 (fun _ => False)) := HfE.out.none G1.out
          go_wp2
          go_ret2
          simp only [Prod.mk.injEq] at Hres
          obtain ⟨rfl, rfl⟩ := Hres.out
          exact ⟨rfl, Hfo.out⟩
        | true =>
        obtain ⟨k0, k1, k2, k3⟩ := four_cells (Hpe.out x1 G1.out)
        obtain ⟨B2, hB2⟩ : ∃ B, B = decide (0 ≤ q ∧ q ≤ s) := ⟨_, rfl⟩
        have HB2 : Hid _ := hB2
        have hto : (decide (0 ≤ q) && decide (q ≤ s)) = B2 := by rw [hB2]; simp
        clear hB2
        by_cases hb2 : 0 ≤ q ∧ q ≤ s
        · have Hres : Hid ((R1, R2) = (i, 23)) := by show _ = _; rw [← Hst.out]; exact lchk_to Hlim.out HB1.out.symm hb2
          have Hfo : Hid (Fr w0 x1 (fun _ => False)) := HfE.out.none G1.out
          have d6 : decide (0 ≤ q) = true := decide_eq_true hb2.1
          have d7 : decide (q ≤ s) = true := decide_eq_true hb2.2
          clear hb2 hto
          go_wp2
          go_ret2
          simp only [Prod.mk.injEq] at Hres
          obtain ⟨rfl, rfl⟩ := Hres.out
          exact ⟨rfl, Hfo.out⟩
        have Hto : Hid (¬ (0 ≤ q ∧ q ≤ s)) := hb2
        clear hb2 hto
        obtain ⟨B3, hB3⟩ : ∃ B, B = ((prevL l i).any fun p => lOrd p ((e1, e2), s, q)) := ⟨_, rfl⟩
        have HB3 : Hid _ := hB3
        clear hB3
        go_upto_region 18 with fail
        go_cut [64] from 65 to 74 (fun V wx => V = .bool false ∧ wx = x1)
        case first =>
          by_cases h : 0 ≤ q
          · have d6 : decide (0 ≤ q) = true := decide_eq_true h
            have d7 : decide (q ≤ s) = false := decide_eq_false (fun h2 => Hto.out ⟨h, h2⟩)
            clear h
            go_wp2_with fail
            go_meet
            case rel => exact ⟨rfl, rfl⟩
          · have d6 : decide (0 ≤ q) = false := decide_eq_false h
            clear h
            go_wp2_with fail
            go_meet
            case rel => exact ⟨rfl, rfl⟩
        case rest =>
        obtain ⟨rfl, rfl⟩ := hcut
        rename_i hKc
        refine hKc _ _ ?_
        clear hKc
        obtain ⟨x1, rfl⟩ : ∃ x, x = wc := ⟨_, rfl⟩
        go_upto_region 20 with fail
        clear k0 k1 k2 k3
        go_cut [76] from 77 to 122 (fun V wx => V = .bool B3 ∧ Fr x1 wx (fun _ => False))
        case first =>
          by_cases h0 : i = 0
          · subst h0
            have HB4 : Hid (B3 = false) := by show _ = _; rw [HB3.out]; rfl
            obtain rfl := HB4.out
            go_wp2_with fail
            refine wp_region_tree (fun _ => False) (.take 0 (.take 1 (.take 2 (.take 3 (.take 4 (.take 5 (.take 6 (.take 7 (.take 8 (.take 9 (.take 10 (.one 11 (.take 12 (.take 13 (.take 14 (.take 15 (.take 16 (.take 17 (.take 18 (.take 19 (.take 20 (.take 21 (.take 22 (.take 23 (.take 24 (.take 25 (.take 26 (.take 27 (.take 28 (.take 29 (.take 30 (.take 31 (.take 32 (.take 33 (.take 34 (.take 35 (.take 36 (.take 37 (.take 38 (.take 39 (.take 40 (.take 41 (.take 42 (.take 43 (.take 44 (.take 45 (.take 46 .nil))))))))))))))))))))))))))))))))))))))))))))))) (by kernel_rfl) (by kernel_rfl) (by decide) (by kernel_rfl) ?_
            iterate 3 (refine wpT_take (v := ?_) rfl rfl (fun x hx => ?_) ?_; rotate_left; (focus (go_simp; with_reducible rfl)); simp only [Act.put, List.setIfInBounds_toArray, List.set_cons_zero, List.set_cons_succ])
            iterate 8 (refine wpT_pass rfl rfl ?_; simp only [Act.put, List.setIfInBounds_toArray, List.set_cons_zero, List.set_cons_succ])
            (refine wpT_skip rfl rfl ?_; simp only [Act.put, List.setIfInBounds_toArray, List.set_cons_zero, List.set_cons_succ])
            (refine wpT_pass rfl rfl ?_; simp only [Act.put, List.setIfInBounds_toArray, List.set_cons_zero, List.set_cons_succ])
            repeat (first | (refine wpT_pass rfl rfl ?_; simp only [Act.put, List.setIfInBounds_toArray, List.set_cons_zero, List.set_cons_succ]) | (refine wpT_take (v := ?_) rfl rfl (fun x hx => ?_) ?_; rotate_left; (focus (go_simp; with_reducible rfl)); simp only [Act.put, List.setIfInBounds_toArray, List.set_cons_zero, List.set_cons_succ]))
            have G3 : Hid (Fr x1 x1.drew (fun _ => False)) := (Fr.refl x1 (fun _ => False)).drew
            unfold wpT
            go_wp2_with fail
            go_meet
            case rel => exact ⟨rfl, G3.out⟩
          · obtain ⟨i1, hie⟩ : ∃ j, i = j + 1 := ⟨i - 1, by omega⟩
            obtain ⟨⟨⟨f1, f2⟩, s', q'⟩, ha'⟩ : ∃ a, l[i1]? = some a := ⟨_, List.getElem?_eq_getElem (by rw [← Hm.out]; omega)⟩
            obtain ⟨L, hL⟩ : ∃ L, L = eLess (f1, f2) (e1, e2) := ⟨_, rfl⟩
            have HB4 : Hid (B3 = (!L && !(decide (f1 = e1) && decide (f2 = e2) && decide (0 ≤ q') && decide (q' < s)))) := by
              show _ = _
              rw [HB3.out, hie]
              show ((l[i1]?).any fun p => lOrd p ((e1, e2), s, q)) = _
              rw [ha', hL]
              simp only [Option.any_some]
              unfold lOrd
              by_cases h1 : f1 = e1 <;> by_cases h2 : f2 = e2 <;> simp [h1, h2]
            have HL : Hid _ := hL
            obtain ⟨bk', off', cap', e4, hbk, hca⟩ := Hr.out.get i1 _ ha'
            simp only [Value.slice.injEq, Option.some.injEq, Addr.mk.injEq] at e4
            obtain ⟨⟨rfl, rfl, -⟩, -, rfl⟩ := e4
            have hG : Fr w0 x1.drew (fun _ => False) := (HfE.out.none G1.out).drew
            have HG : Hid _ := hG
            have ka : ∀ z, Fr x1.drew z (fun _ => False) → z.cell? ⟨bk, off + i1 * 4, none⟩ = some (.int .u32 (f1 : Int)) := fun z hz => (hca z ((HG.out.none hz).mono (fun _ _ h => h.elim))).1
            have kb : ∀ z, Fr x1.drew z (fun _ => False) → z.cell? ⟨bk, off + i1 * 4 + 1, none⟩ = some (.int .u32 (f2 : Int)) := fun z hz => (hca z ((HG.out.none hz).mono (fun _ _ h => h.elim))).2.1
            have kc : ∀ z, Fr x1.drew z (fun _ => False) → z.cell? ⟨bk, off + i1 * 4 + 2, none⟩ = some (.int .i64 s') := fun z hz => (hca z ((HG.out.none hz).mono (fun _ _ h => h.elim))).2.2.1
            have kd : ∀ z, Fr x1.drew z (fun _ => False) → z.cell? ⟨bk, off + i1 * 4 + 3, none⟩ = some (.int .i64 q') := fun z hz => (hca z ((HG.out.none hz).mono (fun _ _ h => h.elim))).2.2.2
            have ke : ∀ z, Fr x1.drew z (fun _ => False) → z.cell? ⟨pe, 0, none⟩ = some (.int .u32 (e1 : Int)) := fun z hz => (four_cells (Hpe.out z (G1.out.drew.none hz))).1
            have kf : ∀ z, Fr x1.drew z (fun _ => False) → z.cell? ⟨pe, 1, none⟩ = some (.int .u32 (e2 : Int)) := fun z hz => (four_cells (Hpe.out z (G1.out.drew.none hz))).2.1
            have kg : ∀ z, Fr x1.drew z (fun _ => False) → z.cell? ⟨pe, 2, none⟩ = some (.int .i64 s) := fun z hz => (four_cells (Hpe.out z (G1.out.drew.none hz))).2.2.1
            have hpos : decide ((0 : Int) < (i : Int)) = true := decide_eq_true (by omega)
            have hsub : IntKind.i64.wrap ((i : Int) - 1) = (i1 : Int) := by rw [IntWalk.i64_in _ (by omega)]; omega
            have hpos' : decide (0 < i) = true := decide_eq_true (by omega)
            have hi1 : (i1 : Int) < (m : Int) := by omega
            have hi10 : (0 : Int) ≤ (i1 : Int) := by omega
            clear hca hbk hG ha' hie hL
            go_wp2_with fail
            refine wp_region_tree (fun _ => False) (.take 0 (.take 1 (.take 2 (.take 3 (.take 4 (.take 5 (.take 6 (.take 7 (.take 8 (.take 9 (.take 10 (.one 11 (.take 12 (.take 13 (.take 14 (.take 15 (.take 16 (.take 17 (.take 18 (.take 19 (.take 20 (.take 21 (.take 22 (.take 23 (.take 24 (.take 25 (.take 26 (.take 27 (.take 28 (.take 29 (.take 30 (.take 31 (.take 32 (.take 33 (.take 34 (.take 35 (.take 36 (.take 37 (.take 38 (.take 39 (.take 40 (.take 41 (.take 42 (.take 43 (.take 44 (.take 45 (.take 46 .nil))))))))))))))))))))))))))))))))))))))))))))))) (by kernel_rfl) (by kernel_rfl) (by decide) (by kernel_rfl) ?_
            repeat (refine wpT_take (v := ?_) rfl rfl (fun x hx => ?_) ?_; rotate_left; (focus (go_simp; with_reducible rfl)); simp only [Act.put, List.setIfInBounds_toArray, List.set_cons_zero, List.set_cons_succ])
            refine wpT_one rfl rfl (fun K hK => ?_)
            go_simp
            refine (refLess8_any (f1, f2) (e1, e2) _).mono ?_
            rw [← HL.out]
            rintro r x3 ⟨rfl, g⟩
            refine hK _ _ g ?_
            clear hK K
            have G3 : Hid (Fr x1 x3 (fun _ => False)) := (Fr.refl x1 (fun _ => False)).drew.none g
            have G3s : Hid (Fr x1.drew x3 (fun _ => False)) := g
            replace ka := fun z (hz : Fr x3 z (fun _ => False)) => ka z (G3s.out.none hz)
            replace kb := fun z (hz : Fr x3 z (fun _ => False)) => kb z (G3s.out.none hz)
            replace kc := fun z (hz : Fr x3 z (fun _ => False)) => kc z (G3s.out.none hz)
            replace kd := fun z (hz : Fr x3 z (fun _ => False)) => kd z (G3s.out.none hz)
            replace ke := fun z (hz : Fr x3 z (fun _ => False)) => ke z (G3s.out.none hz)
            replace kf := fun z (hz : Fr x3 z (fun _ => False)) => kf z (G3s.out.none hz)
            replace kg := fun z (hz : Fr x3 z (fun _ => False)) => kg z (G3s.out.none hz)
            clear g
            cases L with
            | true =>
              obtain rfl : B3 = false := by rw [HB4.out]; rfl
              repeat (first | (refine wpT_pass rfl rfl ?_; simp only [Act.put, List.setIfInBounds_toArray, List.set_cons_zero, List.set_cons_succ]) | (refine wpT_take (v := ?_) rfl rfl (fun x hx => ?_) ?_; rotate_left; (focus (go_simp; with_reducible rfl)); simp only [Act.put, List.setIfInBounds_toArray, List.set_cons_zero, List.set_cons_succ]))
              unfold wpT
              go_wp2_with fail
              go_meet
              case rel => exact ⟨rfl, G3.out⟩
            | false =>
            by_cases h1 : f1 = e1
            · have d6 : ((f1 : Int) == (e1 : Int)) = true := by simp [h1]
              have d6' : (f1 == e1) = true := by simp [h1]
              by_cases h2 : f2 = e2
              · have d7 : ((f2 : Int) == (e2 : Int)) = true := by simp [h2]
                have d7' : (f2 == e2) = true := by simp [h2]
                by_cases h3 : 0 ≤ q'
                · have d8 : decide (0 ≤ q') = true := decide_eq_true h3
                  by_cases h4 : q' < s
                  · have d9 : decide (q' < s) = true := decide_eq_true h4
                    obtain rfl : B3 = false := by rw [HB4.out]; simp [h1, h2, h3, h4]
                    clear h1 h2 h3 h4
                    repeat (first | (refine wpT_pass rfl rfl ?_; simp only [Act.put, List.setIfInBounds_toArray, List.set_cons_zero, List.set_cons_succ]) | (refine wpT_take (v := ?_) rfl rfl (fun x hx => ?_) ?_; rotate_left; (focus (go_simp; with_reducible rfl)); simp only [Act.put, List.setIfInBounds_toArray, List.set_cons_zero, List.set_cons_succ]))
                    unfold wpT
                    go_wp2_with fail
                    go_meet
                    case rel => exact ⟨rfl, G3.out⟩
                  · have d9 : decide (q' < s) = false := decide_eq_false h4
                    obtain rfl : B3 = true := by rw [HB4.out]; simp [h1, h2, h3, h4]
                    clear h1 h2 h3 h4
                    repeat (first | (refine wpT_pass rfl rfl ?_; simp only [Act.put, List.setIfInBounds_toArray, List.set_cons_zero, List.set_cons_succ]) | (refine wpT_take (v := ?_) rfl rfl (fun x hx => ?_) ?_; rotate_left; (focus (go_simp; with_reducible rfl)); simp only [Act.put, List.setIfInBounds_toArray, List.set_cons_zero, List.set_cons_succ]))
                    unfold wpT
                    go_wp2_with fail
                    go_meet
                    case rel => exact ⟨rfl, G3.out⟩
                · have d8 : decide (0 ≤ q') = false := decide_eq_false h3
                  obtain rfl : B3 = true := by rw [HB4.out]; simp [h1, h2, h3]
                  clear h1 h2 h3
                  repeat (first | (refine wpT_pass rfl rfl ?_; simp only [Act.put, List.setIfInBounds_toArray, List.set_cons_zero, List.set_cons_succ]) | (refine wpT_take (v := ?_) rfl rfl (fun x hx => ?_) ?_; rotate_left; (focus (go_simp; with_reducible rfl)); simp only [Act.put, List.setIfInBounds_toArray, List.set_cons_zero, List.set_cons_succ]))
                  unfold wpT
                  go_wp2_with fail
                  go_meet
                  case rel => exact ⟨rfl, G3.out⟩
              · have d7 : ((f2 : Int) == (e2 : Int)) = false := by rw [beq_eq_false_iff_ne]; omega
                have d7' : (f2 == e2) = false := by rw [beq_eq_false_iff_ne]; exact h2
                obtain rfl : B3 = true := by rw [HB4.out]; simp [h1, h2]
                clear h1 h2
                repeat (first | (refine wpT_pass rfl rfl ?_; simp only [Act.put, List.setIfInBounds_toArray, List.set_cons_zero, List.set_cons_succ]) | (refine wpT_take (v := ?_) rfl rfl (fun x hx => ?_) ?_; rotate_left; (focus (go_simp; with_reducible rfl)); simp only [Act.put, List.setIfInBounds_toArray, List.set_cons_zero, List.set_cons_succ]))
                unfold wpT
                go_wp2_with fail
                go_meet
                case rel => exact ⟨rfl, G3.out⟩
            · have d6 : ((f1 : Int) == (e1 : Int)) = false := by rw [beq_eq_false_iff_ne]; omega
              have d6' : (f1 == e1) = false := by rw [beq_eq_false_iff_ne]; exact h1
              obtain rfl : B3 = true := by rw [HB4.out]; simp [h1]
              clear h1
              repeat (first | (refine wpT_pass rfl rfl ?_; simp only [Act.put, List.setIfInBounds_toArray, List.set_cons_zero, List.set_cons_succ]) | (refine wpT_take (v := ?_) rfl rfl (fun x hx => ?_) ?_; rotate_left; (focus (go_simp; with_reducible rfl)); simp only [Act.put, List.setIfInBounds_toArray, List.set_cons_zero, List.set_cons_succ]))
              unfold wpT
              go_wp2_with fail
              go_meet
              case rel => exact ⟨rfl, G3.out⟩
        case rest =>
        obtain ⟨rfl, hfc⟩ := hcut
        rename_i hKc2
        refine hKc2 _ _ ?_
        clear hKc2
        have G4 : Hid (Fr w0 wc (fun _ => False)) := (HfE.out.none G1.out).none hfc
        clear hfc
        cases B3 with
        | true =>
          have Hres : Hid ((R1, R2) = (i, 23)) := by show _ = _; rw [← Hst.out]; exact lchk_order Hlim.out HB1.out.symm Hto.out HB3.out.symm
          go_wp2
          go_ret2
          simp only [Prod.mk.injEq] at Hres
          obtain ⟨rfl, rfl⟩ := Hres.out
          exact ⟨rfl, G4.out⟩
        | false =>
        have Hst5 : Hid (lchkF n (prevL l (i + 1)) (i + 1) (l.drop (i + 1)) = (R1, R2)) := by
          show _ = _
          rw [show prevL l (i + 1) = some ((e1, e2), s, q) from Ha.out, ← Hst.out]
          exact (lchk_step Hlim.out HB1.out.symm Hto.out HB3.out.symm).symm
        go_wp2_with fail
        go_roundg (m - (i + 1))
        case rel => exact ⟨i + 1, rfl, by omega, by go_num, Hst5.out, G4.out⟩
        case measure => rw [Hg.out]; omega
      · have hin : ¬ (i : Int) < (m : Int) := by omega
        have hin' : decide (i < m) = false := decide_eq_false hlt
        have Hres : Hid ((R1, R2) = (0, 0)) := by
          show _ = _
          rw [← Hs.out, List.drop_eq_nil_of_le (by rw [← Hm.out]; omega), lchkF]
        go_wp2
        go_ret2
        simp only [Prod.mk.injEq] at Hres
        obtain ⟨rfl, rfl⟩ := Hres.out
        exact ⟨rfl, Hf.out⟩

end Go.Proofs.YtnffjafddbbjaaaGreatDoor
