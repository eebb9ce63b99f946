/-
  The contract of the reference's Check of a history.
-/
import Derived.Test.YtojeaggnknnnoaaXTurn
namespace Go.Proofs.Ytojeaggnknnnoaa
open Go.RowKit

/-- The event ahead of a place. -/
def prevAt (evs : List Ev) : Nat → Option Ev
  | 0 => none
  | i + 1 => evs[i]?
theorem drop_at {α : Type} {l : List α} {i : Nat} {a : α} (h : l[i]? = some a) : l.drop i = a :: l.drop (i + 1) := by
  obtain ⟨hi, he⟩ := List.getElem?_eq_some_iff.1 h
  rw [List.drop_eq_getElem_cons hi, he]
theorem chk_limit {n : Nat} {now : List Eg} {pv : Option Ev} {i : Nat} {x : Ev} {r : List Ev} (h : x.1 < 0 ∨ 4611686018427387903 < x.1) : chkF n now pv i (x :: r) = (i, 26) := by
  rw [chkF, if_pos h]
theorem chk_vertex {n : Nat} {now : List Eg} {pv : Option Ev} {i : Nat} {x : Ev} {r : List Ev} (h : ¬ (x.1 < 0 ∨ 4611686018427387903 < x.1)) (h1 : eRight x.2.1.1 x.2.1.2 n = false) : chkF n now pv i (x :: r) = (i, 24) := by
  rw [chkF, if_neg h, if_pos h1]
theorem chk_order {n : Nat} {now : List Eg} {pv : Option Ev} {i : Nat} {x : Ev} {r : List Ev} (h : ¬ (x.1 < 0 ∨ 4611686018427387903 < x.1)) (h1 : eRight x.2.1.1 x.2.1.2 n = true) (h2 : (pv.any fun p => !eBef p x) = true) : chkF n now pv i (x :: r) = (i, 23) := by
  rw [chkF, if_neg h, if_neg (by rw [h1]; simp), if_pos h2]
theorem chk_edge {n : Nat} {now : List Eg} {pv : Option Ev} {i : Nat} {x : Ev} {r : List Ev} (h : ¬ (x.1 < 0 ∨ 4611686018427387903 < x.1)) (h1 : eRight x.2.1.1 x.2.1.2 n = true) (h2 : (pv.any fun p => !eBef p x) = false) (h3 : turnF now x.2.1 x.2.2 = none) : chkF n now pv i (x :: r) = (i, 25) := by
  rw [chkF, if_neg h, if_neg (by rw [h1]; simp), if_neg (by rw [h2]; simp), h3]
theorem chk_step {n : Nat} {now now' : List Eg} {pv : Option Ev} {i : Nat} {x : Ev} {r : List Ev} (h : ¬ (x.1 < 0 ∨ 4611686018427387903 < x.1)) (h1 : eRight x.2.1.1 x.2.1.2 n = true) (h2 : (pv.any fun p => !eBef p x) = false) (h3 : turnF now x.2.1 x.2.2 = some now') : chkF n now pv i (x :: r) = chkF n now' (some x) (i + 1) r := by
  rw [chkF, if_neg h, if_neg (by rw [h1]; simp), if_neg (by rw [h2]; simp), h3]
theorem checkF_small {n : Nat} {evs : List Ev} (h : evs.length ≤ 1000000) (hn : ¬ 4294967296 < n) : checkF n evs = chkF n [] none 0 evs := by
  unfold checkF
  rw [if_neg (by omega)]

set_option maxRecDepth 4000 in
set_option maxHeartbeats 1600000 in
theorem refCheck_any (n : Nat) (v : Value) (evs : List Ev) (w : World) (h : RdV w v evs) (hl : evs.length ≤ 1000000) (hfit : ∀ x ∈ evs, EvFit x) : Calls Try.prog 12 #[histV n v] w fun r w' => r = .returned (.tuple #[.int .i64 ((checkF n evs).1 : Int), .int .i64 ((checkF n evs).2 : Int)]) ∧ Fr w w' (fun _ => False) := by
  obtain ⟨a0, c0, rfl, hc0⟩ := h.form
  obtain ⟨m, hm⟩ : ∃ m, m = evs.length := ⟨_, rfl⟩
  rw [← hm] at h hl hc0 ⊢
  obtain ⟨⟨R1, R2⟩, hR⟩ : ∃ R, R = checkF n evs := ⟨_, rfl⟩
  rw [← hR]
  have HR : Hid _ := hR
  have Hr : Hid (RdV w (.slice a0 m c0) evs) := h
  have Hm : Hid _ := hm
  have Hl : Hid (evs.length ≤ 1000000) := by show _ ≤ _; omega
  have Hfit : Hid _ := hfit
  clear h hm hR hfit
  unfold histV
  dsimp only
  by_cases hn : 4294967296 < n
  · have d1 : decide ((4294967296 : Int) < (n : Int)) = true := decide_eq_true (by omega)
    have d1' : decide (4294967296 < n) = true := decide_eq_true hn
    have Hres : Hid ((R1, R2) = (0, 26)) := by show _ = _; rw [HR.out]; unfold checkF; exact if_pos (.inl hn)
    go_enter Try.func12, Try.ntmps12
    go_wp2
    go_ret2
    simp only [Prod.mk.injEq] at Hres
    obtain ⟨rfl, rfl⟩ := Hres.out
    exact ⟨rfl, (Fr.refl w _).alloc _⟩
  have d1 : decide ((4294967296 : Int) < (n : Int)) = false := decide_eq_false (by omega)
  have d1' : decide (4294967296 < n) = false := decide_eq_false hn
  have d2 : decide ((2147483648 : Int) < (m : Int)) = false := decide_eq_false (by omega)
  have d2' : decide (2147483648 < m) = false := decide_eq_false (by omega)
  have Hst : Hid (chkF n [] none 0 evs = (R1, R2)) := by show _ = _; rw [HR.out, checkF_small Hl.out hn]
  clear hn HR
  go_enter Try.func12, Try.ntmps12
  go_wp2_with fail
  obtain ⟨p, hp⟩ : ∃ p, p = w.heap.size := ⟨_, rfl⟩
  obtain ⟨wa, hwa⟩ : ∃ wa, wa = w.alloc (.cells #[.int .u64 (n : Int), .slice a0 m c0] 25) := ⟨_, rfl⟩
  rw [← hwa, ← hp]
  have Hpb : Hid (∀ z, Fr wa z (fun _ => False) → z.heap[p]? = some (.cells #[.int .u64 (n : Int), .slice a0 m c0] 25 (0, 0))) := fun z hz => hz.kept (by rw [hwa, hp]; exact heap_alloc_new _ _) (fun h => h)
  have Hwa : Hid (Fr w wa (fun _ => False)) := by show Fr _ _ _; rw [hwa]; exact (Fr.refl _ _).alloc _
  have Hr : Hid (∀ z, Fr wa z (fun _ => False) → RdV z (.slice a0 m c0) evs) := fun z hz => Hr.out.keep (Hwa.out.none hz)
  clear hp hwa
  go_loopg [4, 5] m (fun g S I wr => ∃ (i : Nat) (now : List Eg), g = m - i ∧ i ≤ m ∧ I = .int .i64 (i : Int) ∧ RdE wr S now ∧ now.length ≤ i ∧ chkF n now (prevAt evs i) i (evs.drop i) = (R1, R2) ∧ Fr wa wr (fun _ => False))
  case atStart => exact ⟨0, [], by omega, by omega, rfl, RdE.nil _, by simp, Hst.out, Fr.refl _ _⟩
  case round =>
    obtain ⟨i, now, hg, hi, rfl, hnow, hnl, hst, hf⟩ := hrel
    have Hg : Hid _ := hg
    have Hnow : Hid _ := hnow
    have Hnl : Hid _ := hnl
    have Hs : Hid _ := hst
    have Hf : Hid (Fr wa wr (fun _ => False)) := hf
    clear hg hnow hnl hst hf
    obtain ⟨ca, cb⟩ : wr.cell? ⟨p, 0, none⟩ = some (.int .u64 (n : Int)) ∧ wr.cell? ⟨p, 1, none⟩ = some (.slice a0 m c0) := ⟨two_cell0 (Hpb.out wr Hf.out), two_cell1 (Hpb.out wr Hf.out)⟩
    by_cases hlt : i < m
    · have hin : (i : Int) < (m : Int) := by omega
      have hin' : decide (i < m) = true := decide_eq_true hlt
      obtain ⟨⟨t, ⟨e1, e2⟩, ad⟩, ha⟩ : ∃ a, evs[i]? = some a := ⟨_, List.getElem?_eq_getElem (by rw [← Hm.out]; omega)⟩
      have Ha : Hid _ := ha
      have Hx : Hid (EvFit (t, (e1, e2), ad)) := Hfit.out _ (List.mem_of_getElem? ha)
      have Hst : Hid (chkF n now (prevAt evs i) i ((t, (e1, e2), ad) :: evs.drop (i + 1)) = (R1, R2)) := by
        show _ = _
        rw [← Hs.out]
        rw [drop_at ha]
      obtain ⟨bk, off, cap, e3, hbk, hca⟩ := (Hr.out wa (Fr.refl _ _)).get i _ ha
      simp only [Value.slice.injEq] at e3
      obtain ⟨rfl, -, rfl⟩ := e3
      obtain ⟨k0, k1, k2, k3⟩ := hca wr (Hf.out.mono (fun _ _ h => h.elim))
      have hi0 : (0 : Int) ≤ (i : Int) := by omega
      clear hca ha hbk Hs
      go_upto_region 8 with fail
      obtain ⟨pe, hpe⟩ : ∃ p, p = wr.heap.size := ⟨_, rfl⟩
      obtain ⟨wE, hwE⟩ : ∃ x, x = wr.alloc (.cells #[.int .i64 t, .int .u32 (e1 : Int), .int .u32 (e2 : Int), .bool ad] 42) := ⟨_, rfl⟩
      rw [← hwE, ← hpe]
      have Hpe : Hid (∀ z, Fr wE z (fun _ => False) → z.heap[pe]? = some (.cells #[.int .i64 t, .int .u32 (e1 : Int), .int .u32 (e2 : Int), .bool ad] 42 (0, 0))) := fun z hz => hz.kept (by rw [hwE, hpe]; exact heap_alloc_new _ _) (fun h => h)
      have HfE : Hid (Fr wa wE (fun _ => False)) := by show Fr _ _ _; rw [hwE]; exact Hf.out.alloc _
      have HrE : Hid (Fr wr wE (fun _ => False)) := by show Fr _ _ _; rw [hwE]; exact (Fr.refl _ _).alloc _
      have Hnow : Hid (∀ z, Fr wE z (fun _ => False) → RdE z u4 now) := fun z hz => Hnow.out.keep (HrE.out.none hz)
      clear k0 k1 k2 k3 ca cb hwE hpe
      obtain ⟨k0, k1, k2, k3⟩ := four_cells (Hpe.out wE (Fr.refl _ _))
      obtain ⟨ca, cb⟩ : wE.cell? ⟨p, 0, none⟩ = some (.int .u64 (n : Int)) ∧ wE.cell? ⟨p, 1, none⟩ = some (.slice (some ⟨bk, off, none⟩) m c0) := ⟨two_cell0 (Hpb.out wE HfE.out), two_cell1 (Hpb.out wE HfE.out)⟩
      by_cases ht : t < 0
      · have d3 : decide (t < 0) = true := decide_eq_true ht
        have Hres : Hid ((R1, R2) = (i, 26)) := by show _ = _; rw [← Hst.out]; exact chk_limit (.inl ht)
        have Hfo : Hid (Fr w wE (fun _ => False)) := Hwa.out.none HfE.out
        clear ht
        go_wp2
        go_ret2
        simp only [Prod.mk.injEq] at Hres
        obtain ⟨rfl, rfl⟩ := Hres.out
        exact ⟨rfl, Hfo.out⟩
      have d3 : decide (t < 0) = false := decide_eq_false ht
      by_cases ht2 : 4611686018427387903 < t
      · have d4 : decide (4611686018427387903 < t) = true := decide_eq_true ht2
        have Hres : Hid ((R1, R2) = (i, 26)) := by show _ = _; rw [← Hst.out]; exact chk_limit (.inr ht2)
        have Hfo : Hid (Fr w wE (fun _ => False)) := Hwa.out.none HfE.out
        clear ht ht2
        go_wp2
        go_ret2
        simp only [Prod.mk.injEq] at Hres
        obtain ⟨rfl, rfl⟩ := Hres.out
        exact ⟨rfl, Hfo.out⟩
      have d4 : decide (4611686018427387903 < t) = false := decide_eq_false ht2
      have Hlim : Hid (¬ (t < 0 ∨ 4611686018427387903 < t)) := by show ¬ _; omega
      obtain ⟨B1, hB1⟩ : ∃ B, B = eRight e1 e2 n := ⟨_, rfl⟩
      have HB1 : Hid _ := hB1
      clear ht ht2 hB1
      go_wp2_with fail
      refine (refRight8_any e1 e2 n _ Hx.out.2.2).mono ?_
      rw [← HB1.out]
      rintro r x1 ⟨rfl, g⟩
      have G1 : Hid (Fr wE x1 (fun _ => False)) := g
      clear g k0 k1 k2 k3 ca cb
      cases B1 with
      | false =>
        have Hres : Hid ((R1, R2) = (i, 24)) := by show _ = _; rw [← Hst.out]; exact chk_vertex Hlim.out HB1.out.symm
        have Hfo : Hid (Fr w x1 (fun _ => False)) := (Hwa.out.none HfE.out).none G1.out
        go_wp2
        go_ret2
        simp only [Prod.mk.injEq] at Hres
        obtain ⟨rfl, rfl⟩ := Hres.out
        exact ⟨rfl, Hfo.out⟩
      | true =>
      obtain ⟨B2, hB2⟩ : ∃ B, B = ((prevAt evs i).any fun p => !eBef p (t, (e1, e2), ad)) := ⟨_, rfl⟩
      have HB2 : Hid _ := hB2
      clear hB2
      go_upto_region 12 with fail
      go_cut [48] from 49 to 61 (fun V wx => V = .bool B2 ∧ Fr x1 wx (fun _ => False))
      case first =>
        by_cases h0 : i = 0
        · subst h0
          have HB3 : Hid (B2 = false) := by show _ = _; rw [HB2.out]; rfl
          obtain rfl := HB3.out
          go_wp2_with fail
          refine wp_region_tree (fun _ => False) (.take 0 (.take 1 (.take 2 (.take 3 (.take 4 (.take 5 (.take 6 (.take 7 (.take 8 (.take 9 (.one 10 (.take 11 (.take 12 (.take 13 .nil)))))))))))))) (by kernel_rfl) (by kernel_rfl) (by decide) (by kernel_rfl) ?_
          iterate 3 (refine wpT_take (v := ?_) rfl rfl (fun x hx => ?_) ?_; rotate_left; (focus (go_simp; with_reducible rfl)); simp only [Act.put, List.setIfInBounds_toArray, List.set_cons_zero, List.set_cons_succ])
          iterate 7 (refine wpT_pass rfl rfl ?_; simp only [Act.put, List.setIfInBounds_toArray, List.set_cons_zero, List.set_cons_succ])
          refine wpT_skip rfl rfl ?_
          simp only [Act.put, List.setIfInBounds_toArray, List.set_cons_zero, List.set_cons_succ]
          (refine wpT_pass rfl rfl ?_; simp only [Act.put, List.setIfInBounds_toArray, List.set_cons_zero, List.set_cons_succ])
          repeat (refine wpT_take (v := ?_) rfl rfl (fun x hx => ?_) ?_; rotate_left; (focus (go_simp; with_reducible rfl)); simp only [Act.put, List.setIfInBounds_toArray, List.set_cons_zero, List.set_cons_succ])
          have G3 : Hid (Fr x1 x1.drew (fun _ => False)) := (Fr.refl x1 (fun _ => False)).drew
          unfold wpT
          go_wp2_with fail
          go_meet
          case rel => exact ⟨rfl, G3.out⟩
        · obtain ⟨i1, hie⟩ : ∃ j, i = j + 1 := ⟨i - 1, by omega⟩
          obtain ⟨⟨t', ⟨f1, f2⟩, ad'⟩, ha'⟩ : ∃ a, evs[i1]? = some a := ⟨_, List.getElem?_eq_getElem (by rw [← Hm.out]; omega)⟩
          have HB3 : Hid (eBefore t' t (f1, f2) (e1, e2) = !B2) := by
            show _ = _
            rw [HB2.out, hie]
            show _ = !((evs[i1]?).any fun p => !eBef p (t, (e1, e2), ad))
            rw [ha']
            simp [eBef]
          obtain ⟨bk', off', cap', e4, hbk, hca⟩ := (Hr.out wa (Fr.refl _ _)).get i1 _ ha'
          simp only [Value.slice.injEq, Option.some.injEq, Addr.mk.injEq] at e4
          obtain ⟨⟨rfl, rfl, -⟩, -, rfl⟩ := e4
          have hG : Fr wa x1.drew (fun _ => False) := (HfE.out.none G1.out).drew
          have HG : Hid _ := hG
          have ka : ∀ z, Fr x1.drew z (fun _ => False) → z.cell? ⟨bk, off + i1 * 4, none⟩ = some (.int .i64 t') := fun z hz => (hca z ((HG.out.none hz).mono (fun _ _ h => h.elim))).1
          have kb : ∀ z, Fr x1.drew z (fun _ => False) → z.cell? ⟨bk, off + i1 * 4 + 1, none⟩ = some (.int .u32 (f1 : Int)) := fun z hz => (hca z ((HG.out.none hz).mono (fun _ _ h => h.elim))).2.1
          have kc : ∀ z, Fr x1.drew z (fun _ => False) → z.cell? ⟨bk, off + i1 * 4 + 2, none⟩ = some (.int .u32 (f2 : Int)) := fun z hz => (hca z ((HG.out.none hz).mono (fun _ _ h => h.elim))).2.2.1
          have kd : ∀ z, Fr x1.drew z (fun _ => False) → z.cell? ⟨bk, off + i1 * 4 + 3, none⟩ = some (.bool ad') := fun z hz => (hca z ((HG.out.none hz).mono (fun _ _ h => h.elim))).2.2.2
          have ke : ∀ z, Fr x1.drew z (fun _ => False) → z.cell? ⟨pe, 0, none⟩ = some (.int .i64 t) := fun z hz => (four_cells (Hpe.out z (G1.out.drew.none hz))).1
          have kf : ∀ z, Fr x1.drew z (fun _ => False) → z.cell? ⟨pe, 1, none⟩ = some (.int .u32 (e1 : Int)) := fun z hz => (four_cells (Hpe.out z (G1.out.drew.none hz))).2.1
          have kg : ∀ z, Fr x1.drew z (fun _ => False) → z.cell? ⟨pe, 2, none⟩ = some (.int .u32 (e2 : Int)) := fun z hz => (four_cells (Hpe.out z (G1.out.drew.none hz))).2.2.1
          have kh : ∀ z, Fr x1.drew z (fun _ => False) → z.cell? ⟨pe, 3, none⟩ = some (.bool ad) := fun z hz => (four_cells (Hpe.out z (G1.out.drew.none hz))).2.2.2
          have kp : ∀ z, Fr x1.drew z (fun _ => False) → z.cell? ⟨p, 1, none⟩ = some (.slice (some ⟨bk, off, none⟩) m c0) := fun z hz => two_cell1 (Hpb.out z (HG.out.none hz))
          have hpos : decide ((0 : Int) < (i : Int)) = true := decide_eq_true (by omega)
          have hsub : IntKind.i64.wrap ((i : Int) - 1) = (i1 : Int) := by rw [IntWalk.i64_in _ (by omega)]; omega
          have hpos' : decide (0 < i) = true := decide_eq_true (by omega)
          have hi1 : (i1 : Int) < (m : Int) := by omega
          have hi10 : (0 : Int) ≤ (i1 : Int) := by omega
          clear hca hbk hG ha' hie
          go_wp2_with fail
          refine wp_region_tree (fun _ => False) (.take 0 (.take 1 (.take 2 (.take 3 (.take 4 (.take 5 (.take 6 (.take 7 (.take 8 (.take 9 (.one 10 (.take 11 (.take 12 (.take 13 .nil)))))))))))))) (by kernel_rfl) (by kernel_rfl) (by decide) (by kernel_rfl) ?_
          repeat (refine wpT_take (v := ?_) rfl rfl (fun x hx => ?_) ?_; rotate_left; (focus (go_simp; with_reducible rfl)); simp only [Act.put, List.setIfInBounds_toArray, List.set_cons_zero, List.set_cons_succ])
          refine wpT_one rfl rfl (fun K hK => ?_)
          go_simp
          refine (refBefore8_any t' t (f1, f2) (e1, e2) ad' ad _).mono ?_
          rw [HB3.out]
          rintro r x3 ⟨rfl, g⟩
          refine hK _ _ g ?_
          clear hK K ka kb kc kd ke kf kg kh kp
          have G3 : Hid (Fr x1 x3 (fun _ => False)) := (Fr.refl x1 (fun _ => False)).drew.none g
          have hbb : (!(!B2)) = B2 := by simp
          clear g
          repeat (refine wpT_take (v := ?_) rfl rfl (fun x hx => ?_) ?_; rotate_left; (focus (go_simp; with_reducible rfl)); simp only [Act.put, List.setIfInBounds_toArray, List.set_cons_zero, List.set_cons_succ])
          unfold wpT
          go_wp2_with fail
          go_meet
          case rel => exact ⟨by first | rfl | rw [hbb], G3.out⟩
      case rest =>
        obtain ⟨rfl, hfc⟩ := hcut
        rename_i hKc
        refine hKc _ _ ?_
        clear hKc
        have G4 : Hid (Fr wE wc (fun _ => False)) := G1.out.none hfc
        clear hfc
        cases B2 with
        | true =>
          have Hres : Hid ((R1, R2) = (i, 23)) := by show _ = _; rw [← Hst.out]; exact chk_order Hlim.out HB1.out.symm HB2.out.symm
          have Hfo : Hid (Fr w wc (fun _ => False)) := (Hwa.out.none HfE.out).none G4.out
          go_wp2
          go_ret2
          simp only [Prod.mk.injEq] at Hres
          obtain ⟨rfl, rfl⟩ := Hres.out
          exact ⟨rfl, Hfo.out⟩
        | false =>
        obtain ⟨TF, hTF⟩ : ∃ T, T = turnF now (e1, e2) ad := ⟨_, rfl⟩
        have HTF : Hid _ := hTF
        clear hTF
        obtain ⟨k0, k1, k2, k3⟩ := four_cells (Hpe.out wc G4.out)
        go_wp2_with fail
        refine (refTurn_any u4 now (t, (e1, e2), ad) _ (Hnow.out wc G4.out) (by have := Hnl.out; omega)).mono ?_
        rw [show turnF now (t, (e1, e2), ad).2.1 (t, (e1, e2), ad).2.2 = TF from HTF.out.symm]
        rintro r x5 ⟨⟨v5, rfl, hr5, -⟩, g⟩
        have G5 : Hid (Fr wa x5 (fun _ => False)) := (HfE.out.none G4.out).none g
        have Hr5 : Hid _ := hr5
        clear hr5 g k0 k1 k2 k3
        cases TF with
        | none =>
          have Hres : Hid ((R1, R2) = (i, 25)) := by show _ = _; rw [← Hst.out]; exact chk_edge Hlim.out HB1.out.symm HB2.out.symm HTF.out.symm
          have Hfo : Hid (Fr w x5 (fun _ => False)) := Hwa.out.none G5.out
          go_wp2
          go_ret2
          simp only [Prod.mk.injEq] at Hres
          obtain ⟨rfl, rfl⟩ := Hres.out
          exact ⟨rfl, Hfo.out⟩
        | some now' =>
          have Hlen : Hid (now'.length ≤ i + 1) := by
            have h1 := turn_length HTF.out.symm
            have h2 := Hnl.out
            show _ ≤ _
            omega
          have Hst5 : Hid (chkF n now' (prevAt evs (i + 1)) (i + 1) (evs.drop (i + 1)) = (R1, R2)) := by
            show _ = _
            rw [show prevAt evs (i + 1) = some (t, (e1, e2), ad) from Ha.out, ← Hst.out]
            exact (chk_step Hlim.out HB1.out.symm HB2.out.symm HTF.out.symm).symm
          go_wp2_with fail
          go_roundg (m - (i + 1))
          case rel => exact ⟨i + 1, now', rfl, by omega, by go_num, Hr5.out, Hlen.out, Hst5.out, G5.out⟩
          case measure => rw [Hg.out]; omega
    · have hin : ¬ (i : Int) < (m : Int) := by omega
      have hin' : decide (i < m) = false := decide_eq_false hlt
      have Hres : Hid ((R1, R2) = (0, 0)) := by
        show _ = _
        rw [← Hs.out, List.drop_eq_nil_of_le (by rw [← Hm.out]; omega), chkF]
      have Hfo : Hid (Fr w wr (fun _ => False)) := Hwa.out.none Hf.out
      go_wp2
      go_ret2
      simp only [Prod.mk.injEq] at Hres
      obtain ⟨rfl, rfl⟩ := Hres.out
      exact ⟨rfl, Hfo.out⟩

end Go.Proofs.Ytojeaggnknnnoaa
