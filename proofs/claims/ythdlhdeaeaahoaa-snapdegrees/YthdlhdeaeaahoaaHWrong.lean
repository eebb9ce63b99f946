/-
  The contract of history's wrong: what is wrong with one event, whatever edges are there.
-/
import Derived.Test.YthdlhdeaeaahoaaJ2
import Derived.Test.YthdlhdeaeaahoaaEPRight
import Derived.Test.YthdlhdeaeaahoaaEPLess
namespace Go.Proofs.Ythdlhdeaeaahoaa
open Go.RowKit

def wrongF (n : Nat) (pv : Option Ev) (x : Ev) : Nat :=
  if x.1 < 0 ∨ 4611686018427387903 < x.1 then 26 else if eRight x.2.1.1 x.2.1.2 n = false then 24 else if (pv.any fun p => !eBef p x) = true then 23 else 0

set_option maxRecDepth 4000 in
set_option maxHeartbeats 1600000 in
theorem wrong_any (n : Nat) (v : Value) (evs : List Ev) (i : Nat) (x : Ev) (w : World) (h : RdV w v evs) (hl : evs.length ≤ 1000000) (hx : EvFit x) (ha : evs[i]? = some x) : Calls Try.prog 45 #[histV n v, .int .i64 (i : Int)] w fun r w' =>
    r = .returned (.int .i64 (wrongF n (prevAt evs i) x : Int)) ∧ Fr w w' (fun _ => False) := by
  obtain ⟨a0, c0, rfl, hc0⟩ := h.form
  obtain ⟨m, hm⟩ : ∃ m, m = evs.length := ⟨_, rfl⟩
  rw [← hm] at h hl hc0 ⊢
  obtain ⟨R, hR⟩ : ∃ R, R = wrongF n (prevAt evs i) x := ⟨_, rfl⟩
  rw [← hR]
  obtain ⟨t, ⟨e1, e2⟩, ad⟩ := x
  have HR : Hid _ := hR
  have Hr0 : Hid (RdV w (.slice a0 m c0) evs) := h
  have Hm : Hid _ := hm
  have hlt : i < m := by rw [hm]; exact (List.getElem?_eq_some_iff.1 ha).1
  have Hx : Hid (EvFit (t, (e1, e2), ad)) := hx
  have hin : (i : Int) < (m : Int) := by omega
  have hi0 : (0 : Int) ≤ (i : Int) := by omega
  have Hlt : Hid _ := hlt
  have Hl : Hid _ := hl
  clear h hm hR hx hl
  unfold histV
  go_enter Try.func45, Try.ntmps45
  go_upto_region 1 with fail
  obtain ⟨p, hp⟩ : ∃ p, p = w.heap.size := ⟨_, rfl⟩
  obtain ⟨wa, hwa⟩ : ∃ wa, wa = w.alloc (.cells #[.int .u64 (n : Int), .slice a0 m c0] 25) := ⟨_, rfl⟩
  rw [← hwa, ← hp]
  have Hpb : Hid (∀ z, Fr wa z (fun _ => False) → z.heap[p]? = some (.cells #[.int .u64 (n : Int), .slice a0 m c0] 25 (0, 0))) := fun z hz => hz.kept (by rw [hwa, hp]; exact heap_alloc_new _ _) (fun h => h)
  have Hwa : Hid (Fr w wa (fun _ => False)) := by show Fr _ _ _; rw [hwa]; exact (Fr.refl _ _).alloc _
  have Hr : Hid (∀ z, Fr wa z (fun _ => False) → RdV z (.slice a0 m c0) evs) := fun z hz => Hr0.out.keep (Hwa.out.none hz)
  clear hp hwa
  obtain ⟨ca, cb⟩ : wa.cell? ⟨p, 0, none⟩ = some (.int .u64 (n : Int)) ∧ wa.cell? ⟨p, 1, none⟩ = some (.slice a0 m c0) := ⟨two_cell0 (Hpb.out wa (Fr.refl _ _)), two_cell1 (Hpb.out wa (Fr.refl _ _))⟩
  obtain ⟨bk, off, cap, e3, hbk, hca⟩ := (Hr.out wa (Fr.refl _ _)).get i _ ha
  rw [← Hm.out] at e3
  simp only [Value.slice.injEq] at e3
  obtain ⟨rfl, -, rfl⟩ := e3
  obtain ⟨k0, k1, k2, k3⟩ := hca wa (Fr.refl _ _)
  clear hca ha hbk Hr0
  go_upto_region 2 with fail
  obtain ⟨pe, hpe⟩ : ∃ p, p = wa.heap.size := ⟨_, rfl⟩
  obtain ⟨wE, hwE⟩ : ∃ x, x = wa.alloc (.cells #[.int .i64 t, .int .u32 (e1 : Int), .int .u32 (e2 : Int), .bool ad] 53) := ⟨_, rfl⟩
  rw [← hwE, ← hpe]
  have Hpe : Hid (∀ z, Fr wE z (fun _ => False) → z.heap[pe]? = some (.cells #[.int .i64 t, .int .u32 (e1 : Int), .int .u32 (e2 : Int), .bool ad] 53 (0, 0))) := fun z hz => hz.kept (by rw [hwE, hpe]; exact heap_alloc_new _ _) (fun h => h)
  have HfE : Hid (Fr wa wE (fun _ => False)) := by show Fr _ _ _; rw [hwE]; exact (Fr.refl _ _).alloc _
  have HwE : Hid (Fr w wE (fun _ => False)) := Hwa.out.none HfE.out
  clear k0 k1 k2 k3 ca cb hwE hpe
  obtain ⟨k0, k1, k2, k3⟩ := four_cells (Hpe.out wE (Fr.refl _ _))
  obtain ⟨ca, cb⟩ : wE.cell? ⟨p, 0, none⟩ = some (.int .u64 (n : Int)) ∧ wE.cell? ⟨p, 1, none⟩ = some (.slice (some ⟨bk, off, none⟩) m c0) := ⟨two_cell0 (Hpb.out wE HfE.out), two_cell1 (Hpb.out wE HfE.out)⟩
  by_cases ht : t < 0
  · have d3 : decide (t < 0) = true := decide_eq_true ht
    have Hres : Hid (R = 26) := by show _ = _; rw [HR.out]; exact if_pos (.inl ht)
    have Hfo : Hid (Fr w wE (fun _ => False)) := HwE.out
    clear ht
    go_wp2
    go_ret
    obtain rfl := Hres.out
    exact ⟨rfl, Hfo.out⟩
  have d3 : decide (t < 0) = false := decide_eq_false ht
  by_cases ht2 : 4611686018427387903 < t
  · have d4 : decide (4611686018427387903 < t) = true := decide_eq_true ht2
    have Hres : Hid (R = 26) := by show _ = _; rw [HR.out]; exact if_pos (.inr ht2)
    have Hfo : Hid (Fr w wE (fun _ => False)) := HwE.out
    clear ht ht2
    go_wp2
    go_ret
    obtain rfl := Hres.out
    exact ⟨rfl, Hfo.out⟩
  have d4 : decide (4611686018427387903 < t) = false := decide_eq_false ht2
  have Hlim : Hid (¬ (t < 0 ∨ 4611686018427387903 < t)) := by show ¬ _; omega
  obtain ⟨B1, hB1⟩ : ∃ B, B = eRight e1 e2 n := ⟨_, rfl⟩
  have HB1 : Hid _ := hB1
  clear ht ht2 hB1
  go_wp2_with fail
  refine (right_any e1 e2 n _ Hx.out.2.2).mono ?_
  rw [← HB1.out]
  rintro r x1 ⟨rfl, g⟩
  have G1 : Hid (Fr wE x1 (fun _ => False)) := g
  clear g k0 k1 k2 k3 ca cb
  cases B1 with
  | false =>
    have Hres : Hid (R = 24) := by show _ = _; rw [HR.out]; exact (if_neg Hlim.out).trans (if_pos HB1.out.symm)
    have Hfo : Hid (Fr w x1 (fun _ => False)) := HwE.out.none G1.out
    go_wp2
    go_ret
    obtain rfl := Hres.out
    exact ⟨rfl, Hfo.out⟩
  | true =>
  obtain ⟨B2, hB2⟩ : ∃ B, B = ((prevAt evs i).any fun p => !eBef p (t, (e1, e2), ad)) := ⟨_, rfl⟩
  have HB2 : Hid _ := hB2
  clear hB2
  go_upto_region 6 with fail
  go_cut [27] from 28 to 40 (fun V wx => V = .bool B2 ∧ Fr x1 wx (fun _ => False))
  case first =>
    by_cases h0 : i = 0
    · subst h0
      have HB3 : Hid (B2 = false) := by show _ = _; rw [HB2.out]; rfl
      obtain rfl := HB3.out
      go_wp2_with fail
      refine wp_region_tree (fun _ => False) (.take 0 (.take 1 (.take 2 (.take 3 (.take 4 (.take 5 (.take 6 (.take 7 (.take 8 (.take 9 (.one 10 (.take 11 (.take 12 (.take 13 .nil)))))))))))))) (by kernel_rfl) (by kernel_rfl) (by decide) (by kernel_rfl) ?_
      iterate 3 (refine wpT_take (v := ?_) rfl rfl (fun x hx => ?_) ?_; rotate_left; (focus (go_simp; with_reducible rfl)); simp only [Act.put, List.setIfInBounds_toArray, List.set_cons_zero, List.set_cons_succ])
      iterate 7 (refine wpT_pass rfl rfl ?_; simp only [Act.put, List.setIfInBounds_toArray, List.set_cons_zero, List.set_cons_succ])
      refine wpT_skip rfl rfl ?_
      simp only [Act.put, List.setIfInBounds_toArray, List.set_cons_zero, List.set_cons_succ]
      (refine wpT_pass rfl rfl ?_; simp only [Act.put, List.setIfInBounds_toArray, List.set_cons_zero, List.set_cons_succ])
      repeat (refine wpT_take (v := ?_) rfl rfl (fun x hx => ?_) ?_; rotate_left; (focus (go_simp; with_reducible rfl)); simp only [Act.put, List.setIfInBounds_toArray, List.set_cons_zero, List.set_cons_succ])
      have G3 : Hid (Fr x1 x1.drew (fun _ => False)) := (Fr.refl x1 (fun _ => False)).drew
      unfold wpT
      go_wp2_with fail
      go_meet
      case rel => exact ⟨rfl, G3.out⟩
    · obtain ⟨i1, hie⟩ : ∃ j, i = j + 1 := ⟨i - 1, by omega⟩
      obtain ⟨⟨t', ⟨f1, f2⟩, ad'⟩, ha'⟩ : ∃ a, evs[i1]? = some a := ⟨_, List.getElem?_eq_getElem (by rw [← Hm.out]; omega)⟩
      have HB3 : Hid (eBefore t' t (f1, f2) (e1, e2) = !B2) := by
        show _ = _
        rw [HB2.out, hie]
        show _ = !((evs[i1]?).any fun p => !eBef p (t, (e1, e2), ad))
        rw [ha']
        simp [eBef]
      obtain ⟨bk', off', cap', e4, hbk, hca⟩ := (Hr.out wa (Fr.refl _ _)).get i1 _ ha'
      simp only [Value.slice.injEq, Option.some.injEq, Addr.mk.injEq] at e4
      obtain ⟨⟨rfl, rfl, -⟩, -, rfl⟩ := e4
      have hG : Fr wa x1.drew (fun _ => False) := (HfE.out.none G1.out).drew
      have HG : Hid _ := hG
      have ka : ∀ z, Fr x1.drew z (fun _ => False) → z.cell? ⟨bk, off + i1 * 4, none⟩ = some (.int .i64 t') := fun z hz => (hca z ((HG.out.none hz).mono (fun _ _ h => h.elim))).1
      have kb : ∀ z, Fr x1.drew z (fun _ => False) → z.cell? ⟨bk, off + i1 * 4 + 1, none⟩ = some (.int .u32 (f1 : Int)) := fun z hz => (hca z ((HG.out.none hz).mono (fun _ _ h => h.elim))).2.1
      have kc : ∀ z, Fr x1.drew z (fun _ => False) → z.cell? ⟨bk, off + i1 * 4 + 2, none⟩ = some (.int .u32 (f2 : Int)) := fun z hz => (hca z ((HG.out.none hz).mono (fun _ _ h => h.elim))).2.2.1
      have kd : ∀ z, Fr x1.drew z (fun _ => False) → z.cell? ⟨bk, off + i1 * 4 + 3, none⟩ = some (.bool ad') := fun z hz => (hca z ((HG.out.none hz).mono (fun _ _ h => h.elim))).2.2.2
      have ke : ∀ z, Fr x1.drew z (fun _ => False) → z.cell? ⟨pe, 0, none⟩ = some (.int .i64 t) := fun z hz => (four_cells (Hpe.out z (G1.out.drew.none hz))).1
      have kf : ∀ z, Fr x1.drew z (fun _ => False) → z.cell? ⟨pe, 1, none⟩ = some (.int .u32 (e1 : Int)) := fun z hz => (four_cells (Hpe.out z (G1.out.drew.none hz))).2.1
      have kg : ∀ z, Fr x1.drew z (fun _ => False) → z.cell? ⟨pe, 2, none⟩ = some (.int .u32 (e2 : Int)) := fun z hz => (four_cells (Hpe.out z (G1.out.drew.none hz))).2.2.1
      have kh : ∀ z, Fr x1.drew z (fun _ => False) → z.cell? ⟨pe, 3, none⟩ = some (.bool ad) := fun z hz => (four_cells (Hpe.out z (G1.out.drew.none hz))).2.2.2
      have kp : ∀ z, Fr x1.drew z (fun _ => False) → z.cell? ⟨p, 1, none⟩ = some (.slice (some ⟨bk, off, none⟩) m c0) := fun z hz => two_cell1 (Hpb.out z (HG.out.none hz))
      have hpos : decide ((0 : Int) < (i : Int)) = true := decide_eq_true (by omega)
      have hsub : IntKind.i64.wrap ((i : Int) - 1) = (i1 : Int) := by have := Hl.out; rw [IntWalk.i64_in _ (by omega)]; omega
      have hpos' : decide (0 < i) = true := decide_eq_true (by omega)
      have hi1 : (i1 : Int) < (m : Int) := by omega
      have hi10 : (0 : Int) ≤ (i1 : Int) := by omega
      clear hca hbk hG ha' hie
      go_wp2_with fail
      refine wp_region_tree (fun _ => False) (.take 0 (.take 1 (.take 2 (.take 3 (.take 4 (.take 5 (.take 6 (.take 7 (.take 8 (.take 9 (.one 10 (.take 11 (.take 12 (.take 13 .nil)))))))))))))) (by kernel_rfl) (by kernel_rfl) (by decide) (by kernel_rfl) ?_
      repeat (refine wpT_take (v := ?_) rfl rfl (fun x hx => ?_) ?_; rotate_left; (focus (go_simp; with_reducible rfl)); simp only [Act.put, List.setIfInBounds_toArray, List.set_cons_zero, List.set_cons_succ])
      refine wpT_one rfl rfl (fun K hK => ?_)
      go_simp
      refine (before_any t' t (f1, f2) (e1, e2) ad' ad _).mono ?_
      rw [HB3.out]
      rintro r x3 ⟨rfl, g⟩
      refine hK _ _ g ?_
      clear hK K ka kb kc kd ke kf kg kh kp
      have G3 : Hid (Fr x1 x3 (fun _ => False)) := (Fr.refl x1 (fun _ => False)).drew.none g
      have hbb : (!(!B2)) = B2 := by simp
      clear g
      repeat (refine wpT_take (v := ?_) rfl rfl (fun x hx => ?_) ?_; rotate_left; (focus (go_simp; with_reducible rfl)); simp only [Act.put, List.setIfInBounds_toArray, List.set_cons_zero, List.set_cons_succ])
      unfold wpT
      go_wp2_with fail
      go_meet
      case rel => exact ⟨by first | rfl | rw [hbb], G3.out⟩
  case rest =>
    obtain ⟨rfl, hfc⟩ := hcut
    rename_i hKc
    refine hKc _ _ ?_
    clear hKc
    have G4 : Hid (Fr wE wc (fun _ => False)) := G1.out.none hfc
    clear hfc
    cases B2 with
    | true =>
      have Hres : Hid (R = 23) := by show _ = _; rw [HR.out]; exact (if_neg Hlim.out).trans ((if_neg (by rw [← HB1.out]; simp)).trans (if_pos HB2.out.symm))
      have Hfo : Hid (Fr w wc (fun _ => False)) := HwE.out.none G4.out
      go_wp2
      go_ret
      obtain rfl := Hres.out
      exact ⟨rfl, Hfo.out⟩
    | false =>
      have Hres : Hid (R = 0) := by show _ = _; rw [HR.out]; exact (if_neg Hlim.out).trans ((if_neg (by rw [← HB1.out]; simp)).trans (if_neg (by rw [← HB2.out]; simp)))
      have Hfo : Hid (Fr w wc (fun _ => False)) := HwE.out.none G4.out
      go_wp2
      go_ret
      obtain rfl := Hres.out
      exact ⟨rfl, Hfo.out⟩

end Go.Proofs.Ythdlhdeaeaahoaa
