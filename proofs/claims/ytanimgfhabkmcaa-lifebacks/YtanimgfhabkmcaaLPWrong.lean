/-
  The contract of life's wrong: what is wrong with one life, by itself or behind the one ahead.
-/
import Derived.Test.YtanimgfhabkmcaaLPSmall
import Derived.Test.YtanimgfhabkmcaaEPRight
namespace Go.Proofs.Ytanimgfhabkmcaa
open Go.RowKit

def lwrongF (n : Nat) (pv : Option Lf) (x : Lf) : Nat :=
  if x.2.1 < 0 ∨ 4611686018427387903 < x.2.1 ∨ 4611686018427387903 < x.2.2 then 26 else if eRight x.1.1 x.1.2 n = false then 24 else if 0 ≤ x.2.2 ∧ x.2.2 ≤ x.2.1 then 23 else if (pv.any fun p => lOrd p x) = true then 23 else 0

set_option maxRecDepth 4000 in
set_option maxHeartbeats 1600000 in
theorem lwrong_any (n : Nat) (v : Value) (l : List Lf) (i : Nat) (x : Lf) (w : World) (h : RdL w v l) (hl : l.length ≤ 1000000) (hx : LfFit x) (ha : l[i]? = some x) : Calls Try.prog 37 #[.int .u64 (n : Int), v, .int .i64 (i : Int)] w fun r w' =>
    r = .returned (.int .i64 (lwrongF n (prevL l i) x : Int)) ∧ Fr w w' (fun _ => False) := by
  obtain ⟨a0, c0, rfl, hc0⟩ := h.form
  obtain ⟨m, hm⟩ : ∃ m, m = l.length := ⟨_, rfl⟩
  rw [← hm] at h hl hc0 ⊢
  obtain ⟨R, hR⟩ : ∃ R, R = lwrongF n (prevL l i) x := ⟨_, rfl⟩
  rw [← hR]
  obtain ⟨⟨e1, e2⟩, s, q⟩ := x
  have HR : Hid _ := hR
  have Hr0 : Hid (RdL w (.slice a0 m c0) l) := h
  have Hm : Hid _ := hm
  have hlt : i < m := by rw [hm]; exact (List.getElem?_eq_some_iff.1 ha).1
  have Hx : Hid (LfFit ((e1, e2), s, q)) := hx
  have hin : (i : Int) < (m : Int) := by omega
  have hi0 : (0 : Int) ≤ (i : Int) := by omega
  have Hlt : Hid _ := hlt
  have Hl : Hid _ := hl
  have HR1 : Hid (s < 0 ∨ 4611686018427387903 < s ∨ 4611686018427387903 < q → R = 26) := fun h => by rw [HR.out]; exact if_pos h
  obtain ⟨bk, off, cap, e3, hbk, hca⟩ := h.get i _ ha
  rw [← hm] at e3
  simp only [Value.slice.injEq] at e3
  obtain ⟨rfl, -, rfl⟩ := e3
  obtain ⟨k0, k1, k2, k3⟩ := hca w (Fr.refl _ _)
  clear h hm hR hx hl hca hbk ha
  go_enter Try.func37, Try.ntmps37
  go_upto_region 2 with fail
  obtain ⟨pe, hpe⟩ : ∃ p, p = w.heap.size := ⟨_, rfl⟩
  obtain ⟨wE, hwE⟩ : ∃ x, x = w.alloc (.cells #[.int .u32 (e1 : Int), .int .u32 (e2 : Int), .int .i64 s, .int .i64 q] 56) := ⟨_, rfl⟩
  rw [← hwE, ← hpe]
  have Hpe : Hid (∀ z, Fr wE z (fun _ => False) → z.heap[pe]? = some (lifeCells ((e1, e2), s, q))) := fun z hz => hz.kept (by rw [hwE, hpe]; exact heap_alloc_new _ _) (fun h => h)
  have HwE : Hid (Fr w wE (fun _ => False)) := by show Fr _ _ _; rw [hwE]; exact (Fr.refl _ _).alloc _
  clear k0 k1 k2 k3 hwE hpe
  obtain ⟨k0, k1, k2, k3⟩ := four_cells (Hpe.out wE (Fr.refl _ _))
  by_cases h1 : s < 0
  · have d1 : decide (s < 0) = true := decide_eq_true h1
    obtain rfl := HR1.out (.inl h1)
    clear h1
    go_wp2
    go_ret
    exact ⟨rfl, HwE.out⟩
  have d1 : decide (s < 0) = false := decide_eq_false h1
  by_cases h2 : 4611686018427387903 < s
  · have d2 : decide (4611686018427387903 < s) = true := decide_eq_true h2
    obtain rfl := HR1.out (.inr (.inl h2))
    clear h1 h2
    go_wp2
    go_ret
    exact ⟨rfl, HwE.out⟩
  have d2 : decide (4611686018427387903 < s) = false := decide_eq_false h2
  by_cases h3 : 4611686018427387903 < q
  · have d3 : decide (4611686018427387903 < q) = true := decide_eq_true h3
    obtain rfl := HR1.out (.inr (.inr h3))
    clear h1 h2 h3
    go_wp2
    go_ret
    exact ⟨rfl, HwE.out⟩
  have d3 : decide (4611686018427387903 < q) = false := decide_eq_false h3
  have Hlim : Hid (¬ (s < 0 ∨ 4611686018427387903 < s ∨ 4611686018427387903 < q)) := by show ¬ _; omega
  obtain ⟨B1, hB1⟩ : ∃ B, B = eRight e1 e2 n := ⟨_, rfl⟩
  have HB1 : Hid _ := hB1
  clear h1 h2 h3 hB1 HR1
  go_wp2_with fail
  refine (right_any e1 e2 n _ Hx.out.1.2).mono ?_
  rw [← HB1.out]
  rintro r x1 ⟨rfl, g⟩
  have G1 : Hid (Fr wE x1 (fun _ => False)) := g
  clear g k0 k1 k2 k3
  cases B1 with
  | false =>
    have Hres : Hid (R = 24) := by show _ = _; rw [HR.out]; exact (if_neg Hlim.out).trans (if_pos HB1.out.symm)
    have Hfo : Hid (Fr w x1 (fun _ => False)) := HwE.out.none G1.out
    go_wp2
    go_ret
    obtain rfl := Hres.out
    exact ⟨rfl, Hfo.out⟩
  | true =>
  obtain ⟨B2, hB2⟩ : ∃ B, B = decide (0 ≤ q ∧ q ≤ s) := ⟨_, rfl⟩
  have HB2 : Hid _ := hB2
  clear hB2
  go_upto_region 6 with fail
  go_cut [32] from 33 to 41 (fun V wx => V = .bool B2 ∧ Fr x1 wx (fun _ => False))
  case first =>
    obtain ⟨k0, k1, k2, k3⟩ := four_cells (Hpe.out x1 G1.out)
    have he := ends_any ((e1, e2), s, q)
    unfold lifeV at he
    dsimp only at he
    by_cases h3 : 0 ≤ q
    · rw [decide_eq_true h3] at he
      go_wp2_with fail
      refine (he _).mono ?_
      rintro r w2 ⟨rfl, hf2⟩
      obtain ⟨j0, j1, j2, j3⟩ := four_cells (Hpe.out w2 (G1.out.none hf2))
      have Hf2 : Hid (Fr x1 w2 (fun _ => False)) := hf2
      have HB3 : Hid (decide (q ≤ s) = B2) := by show _ = _; rw [HB2.out]; simp [h3]
      have hb3 := HB3.out
      clear hf2 h3 k0 k1 k2 k3 he
      go_wp2_with fail
      go_meet
      case rel => exact ⟨by first | rfl | rw [HB3.out], Hf2.out⟩
    · rw [decide_eq_false h3] at he
      have HB3 : Hid (false = B2) := by show _ = _; rw [HB2.out]; simp [h3]
      obtain rfl := HB3.out
      go_wp2_with fail
      refine (he _).mono ?_
      rintro r w2 ⟨rfl, hf2⟩
      have Hf2 : Hid (Fr x1 w2 (fun _ => False)) := hf2
      clear hf2 h3 k0 k1 k2 k3 he
      go_wp2_with fail
      go_meet
      case rel => exact ⟨rfl, Hf2.out⟩
  case rest =>
  obtain ⟨rfl, hfc⟩ := hcut
  rename_i hKc
  refine hKc _ _ ?_
  clear hKc
  have G2 : Hid (Fr wE wc (fun _ => False)) := G1.out.none hfc
  clear hfc
  obtain ⟨x2, rfl⟩ : ∃ x, x = wc := ⟨_, rfl⟩
  cases B2 with
  | true =>
    have h23 : 0 ≤ q ∧ q ≤ s := of_decide_eq_true HB2.out.symm
    have Hres : Hid (R = 23) := by show _ = _; rw [HR.out]; exact (if_neg Hlim.out).trans ((if_neg (by rw [← HB1.out]; simp)).trans (if_pos h23))
    have Hfo : Hid (Fr w x2 (fun _ => False)) := HwE.out.none G2.out
    clear h23
    go_wp2
    go_ret
    obtain rfl := Hres.out
    exact ⟨rfl, Hfo.out⟩
  | false =>
  have Hto : Hid (¬ (0 ≤ q ∧ q ≤ s)) := of_decide_eq_false HB2.out.symm
  obtain ⟨B3, hB3⟩ : ∃ B, B = ((prevL l i).any fun p => lOrd p ((e1, e2), s, q)) := ⟨_, rfl⟩
  have HB3 : Hid _ := hB3
  clear hB3 HB2
  go_upto_region 8 with fail
  go_cut [42] from 43 to 54 (fun V wx => V = .bool B3 ∧ Fr x2 wx (fun _ => False))
  case first =>
    by_cases h0 : i = 0
    · subst h0
      have HB4 : Hid (B3 = false) := by show _ = _; rw [HB3.out]; rfl
      obtain rfl := HB4.out
      go_wp2_with fail
      refine wp_region_tree (fun _ => False) (.take 0 (.take 1 (.take 2 (.take 3 (.take 4 (.take 5 (.take 6 (.take 7 (.take 8 (.one 9 (.take 10 (.take 11 (.take 12 .nil))))))))))))) (by kernel_rfl) (by kernel_rfl) (by decide) (by kernel_rfl) ?_
      repeat (first | (refine wpT_pass rfl rfl ?_; simp only [Act.put, List.setIfInBounds_toArray, List.set_cons_zero, List.set_cons_succ]) | (refine wpT_skip rfl rfl ?_; simp only [Act.put, List.setIfInBounds_toArray, List.set_cons_zero, List.set_cons_succ]) | (refine wpT_take (v := ?_) rfl rfl (fun x hx => ?_) ?_; rotate_left; (focus (go_simp; with_reducible rfl)); simp only [Act.put, List.setIfInBounds_toArray, List.set_cons_zero, List.set_cons_succ]))
      have G3 : Hid (Fr x2 x2.drew (fun _ => False)) := (Fr.refl x2 (fun _ => False)).drew
      unfold wpT
      go_wp2_with fail
      go_meet
      case rel => exact ⟨rfl, G3.out⟩
    · obtain ⟨i1, hie⟩ : ∃ j, i = j + 1 := ⟨i - 1, by omega⟩
      obtain ⟨⟨⟨f1, f2⟩, s', q'⟩, ha'⟩ : ∃ a, l[i1]? = some a := ⟨_, List.getElem?_eq_getElem (by rw [← Hm.out]; omega)⟩
      have HB4 : Hid ((!lOrd ((f1, f2), s', q') ((e1, e2), s, q)) = !B3) := by
        show _ = _
        rw [HB3.out, hie]
        show _ = !((l[i1]?).any fun p => lOrd p ((e1, e2), s, q))
        rw [ha']
        rfl
      obtain ⟨bk', off', cap', e4, hbk, hca⟩ := Hr0.out.get i1 _ ha'
      simp only [Value.slice.injEq, Option.some.injEq, Addr.mk.injEq] at e4
      obtain ⟨⟨rfl, rfl, -⟩, -, rfl⟩ := e4
      have hG : Fr w x2.drew (fun _ => False) := (HwE.out.none G2.out).drew
      have HG : Hid _ := hG
      have HGE : Hid (Fr wE x2.drew (fun _ => False)) := G2.out.drew
      have ka : ∀ z, Fr x2.drew z (fun _ => False) → z.cell? ⟨bk, off + i1 * 4, none⟩ = some (.int .u32 (f1 : Int)) := fun z hz => (hca z ((HG.out.none hz).mono (fun _ _ h => h.elim))).1
      have kb : ∀ z, Fr x2.drew z (fun _ => False) → z.cell? ⟨bk, off + i1 * 4 + 1, none⟩ = some (.int .u32 (f2 : Int)) := fun z hz => (hca z ((HG.out.none hz).mono (fun _ _ h => h.elim))).2.1
      have kc : ∀ z, Fr x2.drew z (fun _ => False) → z.cell? ⟨bk, off + i1 * 4 + 2, none⟩ = some (.int .i64 s') := fun z hz => (hca z ((HG.out.none hz).mono (fun _ _ h => h.elim))).2.2.1
      have kd : ∀ z, Fr x2.drew z (fun _ => False) → z.cell? ⟨bk, off + i1 * 4 + 3, none⟩ = some (.int .i64 q') := fun z hz => (hca z ((HG.out.none hz).mono (fun _ _ h => h.elim))).2.2.2
      have ke : ∀ z, Fr x2.drew z (fun _ => False) → z.cell? ⟨pe, 0, none⟩ = some (.int .u32 (e1 : Int)) := fun z hz => (four_cells (Hpe.out z (HGE.out.none hz))).1
      have kf : ∀ z, Fr x2.drew z (fun _ => False) → z.cell? ⟨pe, 1, none⟩ = some (.int .u32 (e2 : Int)) := fun z hz => (four_cells (Hpe.out z (HGE.out.none hz))).2.1
      have kg : ∀ z, Fr x2.drew z (fun _ => False) → z.cell? ⟨pe, 2, none⟩ = some (.int .i64 s) := fun z hz => (four_cells (Hpe.out z (HGE.out.none hz))).2.2.1
      have kh : ∀ z, Fr x2.drew z (fun _ => False) → z.cell? ⟨pe, 3, none⟩ = some (.int .i64 q) := fun z hz => (four_cells (Hpe.out z (HGE.out.none hz))).2.2.2
      have hpos : decide ((0 : Int) < (i : Int)) = true := decide_eq_true (by omega)
      have hsub : IntKind.i64.wrap ((i : Int) - 1) = (i1 : Int) := by have := Hl.out; rw [IntWalk.i64_in _ (by omega)]; omega
      have hpos' : decide (0 < i) = true := decide_eq_true (by omega)
      have hi1 : (i1 : Int) < (m : Int) := by omega
      have hi10 : (0 : Int) ≤ (i1 : Int) := by omega
      have hah := ahead_any ((f1, f2), s', q') ((e1, e2), s, q)
      rw [HB4.out] at hah
      unfold lifeV at hah
      dsimp only at hah
      clear hca hbk hG ha' hie
      go_wp2_with fail
      refine wp_region_tree (fun _ => False) (.take 0 (.take 1 (.take 2 (.take 3 (.take 4 (.take 5 (.take 6 (.take 7 (.take 8 (.one 9 (.take 10 (.take 11 (.take 12 .nil))))))))))))) (by kernel_rfl) (by kernel_rfl) (by decide) (by kernel_rfl) ?_
      repeat (refine wpT_take (v := ?_) rfl rfl (fun x hx => ?_) ?_; rotate_left; (focus (go_simp; with_reducible rfl)); simp only [Act.put, List.setIfInBounds_toArray, List.set_cons_zero, List.set_cons_succ])
      refine wpT_one rfl rfl (fun K hK => ?_)
      go_simp
      refine (hah _).mono ?_
      rintro r x3 ⟨rfl, g⟩
      refine hK _ _ g ?_
      clear hK K ka kb kc kd ke kf kg kh hah
      have G3 : Hid (Fr x2 x3 (fun _ => False)) := (Fr.refl x2 (fun _ => False)).drew.none g
      have hbb : (!(!B3)) = B3 := by simp
      clear g
      repeat (refine wpT_take (v := ?_) rfl rfl (fun x hx => ?_) ?_; rotate_left; (focus (go_simp; with_reducible rfl)); simp only [Act.put, List.setIfInBounds_toArray, List.set_cons_zero, List.set_cons_succ])
      unfold wpT
      go_wp2_with fail
      go_meet
      case rel => exact ⟨by first | rfl | rw [hbb], G3.out⟩
  case rest =>
    obtain ⟨rfl, hfc⟩ := hcut
    rename_i hKc
    refine hKc _ _ ?_
    clear hKc
    have G4 : Hid (Fr w wc (fun _ => False)) := (HwE.out.none G2.out).none hfc
    clear hfc
    cases B3 with
    | true =>
      have Hres : Hid (R = 23) := by show _ = _; rw [HR.out]; exact (if_neg Hlim.out).trans ((if_neg (by rw [← HB1.out]; simp)).trans ((if_neg Hto.out).trans (if_pos HB3.out.symm)))
      go_wp2
      go_ret
      obtain rfl := Hres.out
      exact ⟨rfl, G4.out⟩
    | false =>
      have Hres : Hid (R = 0) := by show _ = _; rw [HR.out]; exact (if_neg Hlim.out).trans ((if_neg (by rw [← HB1.out]; simp)).trans ((if_neg Hto.out).trans (if_neg (by rw [← HB3.out]; simp))))
      go_wp2
      go_ret
      obtain rfl := Hres.out
      exact ⟨rfl, G4.out⟩

end Go.Proofs.Ytanimgfhabkmcaa
