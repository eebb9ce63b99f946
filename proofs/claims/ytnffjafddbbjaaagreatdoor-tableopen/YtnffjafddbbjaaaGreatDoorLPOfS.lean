/-
  The contract of life's Of: its lives by the library's sort.
-/
import Derived.Test.YtnffjafddbbjaaaGreatDoorJ6
import Derived.Test.YtnffjafddbbjaaaGreatDoorLPBack
import Derived.Test.YtnffjafddbbjaaaGreatDoorJ5
namespace Go.Proofs.YtnffjafddbbjaaaGreatDoor
open Go.RowKit Go.Sort Go.Lib

theorem lLess_swo : SWO lLess := by
  refine swo_of (fun x => ?_) (fun x y z => lLess_trans x y z) (fun x y z h k => ?_)
  · rw [Bool.eq_false_iff]
    intro h
    rw [lLess_asymm x x h] at h
    cases h
  · rw [Bool.eq_false_iff] at *
    intro hx
    rw [Ne, lLess_iff] at h k
    rw [lLess_iff] at hx
    have h1 : eLess x.1 y.1 = false := by
      cases h5 : eLess x.1 y.1 with
      | false => rfl
      | true => exact absurd (.inl h5) h
    have h2 : eLess y.1 z.1 = false := by
      cases h5 : eLess y.1 z.1 with
      | false => rfl
      | true => exact absurd (.inl h5) k
    rcases hx with hx | ⟨hx, hy⟩
    · rw [eLess_ntrans h1 h2] at hx
      cases hx
    · have h3 : x.1 = y.1 := by
        by_cases he : x.1 = y.1
        · exact he
        · have h4 := eLess_ne h1 he
          rw [hx, h2] at *
          cases h4
      exact absurd (.inr ⟨h3.symm.trans hx, by
        have h6 : ¬ x.2.1 < y.2.1 := fun h6 => h (.inr ⟨h3, h6⟩)
        omega⟩) k

theorem encL_len (x : Lf) : (encL x).length = 4 := rfl
theorem encL_one (x : Lf) : ∀ v ∈ encL x, v.oneCell' = true := by
  intro v hv
  simp [encL] at hv
  rcases hv with rfl | rfl | rfl | rfl <;> rfl

theorem slLf : ∃ i ie, SlT 51 82 4 i ie 25 9 :=
  slT_of (bytes := 24) rfl (by kernel_rfl) (by kernel_rfl) (by kernel_rfl) (fun _ => by kernel_rfl) (fun _ => by kernel_rfl)

/-- The sort's call in Of. -/
def ofC (b cap n box : Nat) (sb : Array Value) : SortC Lf := { enc := encL, k := 4, T := 82, lt := lLess, b := b, cap := cap, n := n, g := 56, lb := #[.pointer (some ⟨box, 0, none⟩)], sf := 109, sb := sb }

set_option maxRecDepth 4000 in
set_option maxHeartbeats 1600000 in
/-- Of's function of two places. -/
theorem ofLess_any (b cap n box : Nat) (d : List Lf) (i j : Nat) (x y : Lf) (w : World) (hb : w.cell? ⟨box, 0, none⟩ = some (.slice (some ⟨b, 0, none⟩) n cap)) (hd : RdL w (.slice (some ⟨b, 0, none⟩) n cap) d) (hdn : d.length = n) (hx : d[i]? = some x) (hy : d[j]? = some y) :
    Calls Tryz.prog 56 #[.int .i64 (i : Int), .int .i64 (j : Int), .pointer (some ⟨box, 0, none⟩)] w fun e w' => e = .returned (.bool (lLess x y)) ∧ Fr w w' (fun _ => False) := by
  have hin : i < n := by rw [← hdn]; exact (List.getElem?_eq_some_iff.1 hx).1
  have hjn : j < n := by rw [← hdn]; exact (List.getElem?_eq_some_iff.1 hy).1
  obtain ⟨bk, off, cp, e3, -, hca⟩ := hd.get i x hx
  obtain ⟨bk', off', cp', e4, -, hcb⟩ := hd.get j y hy
  rw [hdn] at e3 e4
  simp only [Value.slice.injEq, Option.some.injEq, Addr.mk.injEq] at e3 e4
  obtain ⟨⟨rfl, rfl, -⟩, -, rfl⟩ := e3
  obtain ⟨⟨rfl, rfl, -⟩, -, -⟩ := e4
  obtain ⟨⟨f1, f2⟩, s, q⟩ := x
  obtain ⟨⟨g1, g2⟩, t, q'⟩ := y
  obtain ⟨B, hB⟩ : ∃ B, B = lLess ((f1, f2), s, q) ((g1, g2), t, q') := ⟨_, rfl⟩
  have HB : Hid _ := hB
  rw [← hB]
  have hle := less_any (f1, f2) (g1, g2)
  unfold edgeV at hle
  dsimp only at hle
  have box_ : ∀ u z, Fr w u (fun _ => False) → Fr u z (fun _ => False) → z.cell? ⟨box, 0, none⟩ = some (.slice (some ⟨b, 0, none⟩) n cap) := fun u z hu hz => by
    have hbl := World.block_lt_of_cell? _ _ hb
    exact (World.cell?_of_block (w := w) ((hu.none hz).block box hbl (fun h => h))).trans hb
  have hfa : ∀ u z, Fr w u (fun _ => False) → Fr u z (fun _ => False) → Fr w z (fun k => k ≠ b) := fun u z hu hz => (hu.none hz).mono (fun _ _ h => h.elim)
  have Hbox : Hid _ := box_
  have HA : Hid (∀ u z, Fr w u (fun _ => False) → Fr u z (fun _ => False) → z.cell? ⟨b, i * 4, none⟩ = some (.int .u32 (f1 : Int)) ∧ z.cell? ⟨b, i * 4 + 1, none⟩ = some (.int .u32 (f2 : Int)) ∧ z.cell? ⟨b, i * 4 + 2, none⟩ = some (.int .i64 s)) := fun u z hu hz => by
    obtain ⟨h1, h2, h3, -⟩ := hca z (hfa u z hu hz)
    simp only [Nat.zero_add] at h1 h2 h3
    exact ⟨h1, h2, h3⟩
  have HC : Hid (∀ u z, Fr w u (fun _ => False) → Fr u z (fun _ => False) → z.cell? ⟨b, j * 4, none⟩ = some (.int .u32 (g1 : Int)) ∧ z.cell? ⟨b, j * 4 + 1, none⟩ = some (.int .u32 (g2 : Int)) ∧ z.cell? ⟨b, j * 4 + 2, none⟩ = some (.int .i64 t)) := fun u z hu hz => by
    obtain ⟨h1, h2, h3, -⟩ := hcb z (hfa u z hu hz)
    simp only [Nat.zero_add] at h1 h2 h3
    exact ⟨h1, h2, h3⟩
  have hi1 : (i : Int) < (n : Int) := by omega
  have hj1 : (j : Int) < (n : Int) := by omega
  have hi0 : (0 : Int) ≤ (i : Int) := by omega
  have hj0 : (0 : Int) ≤ (j : Int) := by omega
  clear hca hcb hfa hd hx hy hb hB box_
  go_enter Tryz.func56, Tryz.ntmps56
  go_upto_region 1 with fail
  have Fd : Hid (Fr w w.drew (fun _ => False)) := (Fr.refl w (fun _ => False)).drew
  have bx : ∀ z, Fr w.drew z (fun _ => False) → z.cell? ⟨box, 0, none⟩ = some (.slice (some ⟨b, 0, none⟩) n cap) := fun z hz => Hbox.out _ z Fd.out hz
  have a0 : ∀ z, Fr w.drew z (fun _ => False) → z.cell? ⟨b, i * 4, none⟩ = some (.int .u32 (f1 : Int)) := fun z hz => (HA.out _ z Fd.out hz).1
  have a1 : ∀ z, Fr w.drew z (fun _ => False) → z.cell? ⟨b, i * 4 + 1, none⟩ = some (.int .u32 (f2 : Int)) := fun z hz => (HA.out _ z Fd.out hz).2.1
  have b0 : ∀ z, Fr w.drew z (fun _ => False) → z.cell? ⟨b, j * 4, none⟩ = some (.int .u32 (g1 : Int)) := fun z hz => (HC.out _ z Fd.out hz).1
  have b1 : ∀ z, Fr w.drew z (fun _ => False) → z.cell? ⟨b, j * 4 + 1, none⟩ = some (.int .u32 (g2 : Int)) := fun z hz => (HC.out _ z Fd.out hz).2.1
  refine wp_region_tree (fun _ => False) (.take 0 (.take 1 (.take 2 (.take 3 (.take 4 (.take 5 (.take 6 (.take 7 (.take 8 (.take 9 (.take 10 .nil))))))))))) (by kernel_rfl) (by kernel_rfl) (by decide) (by kernel_rfl) ?_
  iterate 10 (refine wpT_take (v := ?_) rfl rfl (fun x hx => ?_) ?_; rotate_left; (focus (go_simp; with_reducible rfl)); simp only [Act.put, List.setIfInBounds_toArray, List.set_cons_zero, List.set_cons_succ])
  by_cases h1 : f1 = g1
  · subst h1
    by_cases h2 : f2 = g2
    · subst h2
      have HB2 : Hid (decide (s < t) = B) := by
        show _ = _
        rw [HB.out]
        unfold lLess
        simp [eLess_irrefl]
      have hb2 := HB2.out
      clear HB
      (refine wpT_take (v := ?_) rfl rfl (fun x hx => ?_) ?_; rotate_left; (focus (go_simp; with_reducible rfl)); simp only [Act.put, List.setIfInBounds_toArray, List.set_cons_zero, List.set_cons_succ])
      unfold wpT
      clear bx a0 a1 b0 b1
      go_upto_region 3 with fail
      have Fd2 : Hid (Fr w w.drew.drew (fun _ => False)) := Fd.out.drew
      have bx : ∀ z, Fr w.drew.drew z (fun _ => False) → z.cell? ⟨box, 0, none⟩ = some (.slice (some ⟨b, 0, none⟩) n cap) := fun z hz => Hbox.out _ z Fd2.out hz
      have a0 : ∀ z, Fr w.drew.drew z (fun _ => False) → z.cell? ⟨b, i * 4, none⟩ = some (.int .u32 (f1 : Int)) := fun z hz => (HA.out _ z Fd2.out hz).1
      have a1 : ∀ z, Fr w.drew.drew z (fun _ => False) → z.cell? ⟨b, i * 4 + 1, none⟩ = some (.int .u32 (f2 : Int)) := fun z hz => (HA.out _ z Fd2.out hz).2.1
      have a2 : ∀ z, Fr w.drew.drew z (fun _ => False) → z.cell? ⟨b, i * 4 + 2, none⟩ = some (.int .i64 s) := fun z hz => (HA.out _ z Fd2.out hz).2.2
      have b0 : ∀ z, Fr w.drew.drew z (fun _ => False) → z.cell? ⟨b, j * 4, none⟩ = some (.int .u32 (f1 : Int)) := fun z hz => (HC.out _ z Fd2.out hz).1
      have b1 : ∀ z, Fr w.drew.drew z (fun _ => False) → z.cell? ⟨b, j * 4 + 1, none⟩ = some (.int .u32 (f2 : Int)) := fun z hz => (HC.out _ z Fd2.out hz).2.1
      have b2 : ∀ z, Fr w.drew.drew z (fun _ => False) → z.cell? ⟨b, j * 4 + 2, none⟩ = some (.int .i64 t) := fun z hz => (HC.out _ z Fd2.out hz).2.2
      refine wp_region_tree (fun _ => False) (.take 0 (.take 1 (.take 2 (.take 3 (.take 4 (.take 5 (.take 6 (.take 7 (.take 8 (.take 9 (.take 10 (.take 11 .nil)))))))))))) (by kernel_rfl) (by kernel_rfl) (by decide) (by kernel_rfl) ?_
      repeat (refine wpT_take (v := ?_) rfl rfl (fun x hx => ?_) ?_; rotate_left; (focus (go_simp; with_reducible rfl)); simp only [Act.put, List.setIfInBounds_toArray, List.set_cons_zero, List.set_cons_succ])
      unfold wpT
      have G3 : Hid (Fr w w.drew.drew (fun _ => False)) := Fd2.out
      clear bx a0 a1 a2 b0 b1 b2 hle
      go_wp2_with fail
      go_ret
      exact ⟨by first | rfl | rw [HB2.out], G3.out⟩
    · have hn1 : ¬ (f2 : Int) = (g2 : Int) := by omega
      have HB2 : Hid (eLess (f1, f2) (f1, g2) = B) := by
        show _ = _
        rw [HB.out]
        cases h : eLess (f1, f2) (f1, g2) with
        | true => exact (lLess_iff.2 (.inl h)).symm
        | false =>
          cases h' : lLess ((f1, f2), s, q) ((f1, g2), t, q') with
          | false => rfl
          | true =>
            rcases lLess_iff.1 h' with h1 | ⟨h1, -⟩
            · rw [h] at h1; cases h1
            · simp only [Prod.mk.injEq] at h1
              omega
      rw [HB2.out] at hle
      clear HB
      (refine wpT_take (v := ?_) rfl rfl (fun x hx => ?_) ?_; rotate_left; (focus (go_simp; with_reducible rfl)); simp only [Act.put, List.setIfInBounds_toArray, List.set_cons_zero, List.set_cons_succ])
      unfold wpT
      clear bx a0 a1 b0 b1
      go_upto_region 2 with fail
      have Fd2 : Hid (Fr w w.drew.drew (fun _ => False)) := Fd.out.drew
      have bx : ∀ z, Fr w.drew.drew z (fun _ => False) → z.cell? ⟨box, 0, none⟩ = some (.slice (some ⟨b, 0, none⟩) n cap) := fun z hz => Hbox.out _ z Fd2.out hz
      have a0 : ∀ z, Fr w.drew.drew z (fun _ => False) → z.cell? ⟨b, i * 4, none⟩ = some (.int .u32 (f1 : Int)) := fun z hz => (HA.out _ z Fd2.out hz).1
      have a1 : ∀ z, Fr w.drew.drew z (fun _ => False) → z.cell? ⟨b, i * 4 + 1, none⟩ = some (.int .u32 (f2 : Int)) := fun z hz => (HA.out _ z Fd2.out hz).2.1
      have a2 : ∀ z, Fr w.drew.drew z (fun _ => False) → z.cell? ⟨b, i * 4 + 2, none⟩ = some (.int .i64 s) := fun z hz => (HA.out _ z Fd2.out hz).2.2
      have b0 : ∀ z, Fr w.drew.drew z (fun _ => False) → z.cell? ⟨b, j * 4, none⟩ = some (.int .u32 (f1 : Int)) := fun z hz => (HC.out _ z Fd2.out hz).1
      have b1 : ∀ z, Fr w.drew.drew z (fun _ => False) → z.cell? ⟨b, j * 4 + 1, none⟩ = some (.int .u32 (g2 : Int)) := fun z hz => (HC.out _ z Fd2.out hz).2.1
      have b2 : ∀ z, Fr w.drew.drew z (fun _ => False) → z.cell? ⟨b, j * 4 + 2, none⟩ = some (.int .i64 t) := fun z hz => (HC.out _ z Fd2.out hz).2.2
      refine wp_region_tree (fun _ => False) (.take 0 (.take 1 (.take 2 (.take 3 (.take 4 (.take 5 (.take 6 (.take 7 (.take 8 (.take 9 (.one 10 (.take 11 .nil)))))))))))) (by kernel_rfl) (by kernel_rfl) (by decide) (by kernel_rfl) ?_
      iterate 10 (refine wpT_take (v := ?_) rfl rfl (fun x hx => ?_) ?_; rotate_left; (focus (go_simp; with_reducible rfl)); simp only [Act.put, List.setIfInBounds_toArray, List.set_cons_zero, List.set_cons_succ])
      refine wpT_one rfl rfl (fun K hK => ?_)
      go_simp
      refine (hle _).mono ?_
      rintro r x3 ⟨rfl, g⟩
      refine hK _ _ g ?_
      have G3 : Hid (Fr w x3 (fun _ => False)) := Fd2.out.none g
      clear hK K bx a0 a1 a2 b0 b1 b2 hle g
      repeat (refine wpT_take (v := ?_) rfl rfl (fun x hx => ?_) ?_; rotate_left; (focus (go_simp; with_reducible rfl)); simp only [Act.put, List.setIfInBounds_toArray, List.set_cons_zero, List.set_cons_succ])
      unfold wpT
      go_wp2_with fail
      go_ret
      exact ⟨rfl, G3.out⟩
  · have hn1 : ¬ (f1 : Int) = (g1 : Int) := by omega
    have HB2 : Hid (eLess (f1, f2) (g1, g2) = B) := by
      show _ = _
      rw [HB.out]
      cases h : eLess (f1, f2) (g1, g2) with
      | true => exact (lLess_iff.2 (.inl h)).symm
      | false =>
        cases h' : lLess ((f1, f2), s, q) ((g1, g2), t, q') with
        | false => rfl
        | true =>
          rcases lLess_iff.1 h' with h1 | ⟨h1, -⟩
          · rw [h] at h1; cases h1
          · simp only [Prod.mk.injEq] at h1
            omega
    rw [HB2.out] at hle
    clear HB
    (refine wpT_take (v := ?_) rfl rfl (fun x hx => ?_) ?_; rotate_left; (focus (go_simp; with_reducible rfl)); simp only [Act.put, List.setIfInBounds_toArray, List.set_cons_zero, List.set_cons_succ])
    unfold wpT
    clear bx a0 a1 b0 b1
    go_upto_region 2 with fail
    have Fd2 : Hid (Fr w w.drew.drew (fun _ => False)) := Fd.out.drew
    have bx : ∀ z, Fr w.drew.drew z (fun _ => False) → z.cell? ⟨box, 0, none⟩ = some (.slice (some ⟨b, 0, none⟩) n cap) := fun z hz => Hbox.out _ z Fd2.out hz
    have a0 : ∀ z, Fr w.drew.drew z (fun _ => False) → z.cell? ⟨b, i * 4, none⟩ = some (.int .u32 (f1 : Int)) := fun z hz => (HA.out _ z Fd2.out hz).1
    have a1 : ∀ z, Fr w.drew.drew z (fun _ => False) → z.cell? ⟨b, i * 4 + 1, none⟩ = some (.int .u32 (f2 : Int)) := fun z hz => (HA.out _ z Fd2.out hz).2.1
    have a2 : ∀ z, Fr w.drew.drew z (fun _ => False) → z.cell? ⟨b, i * 4 + 2, none⟩ = some (.int .i64 s) := fun z hz => (HA.out _ z Fd2.out hz).2.2
    have b0 : ∀ z, Fr w.drew.drew z (fun _ => False) → z.cell? ⟨b, j * 4, none⟩ = some (.int .u32 (g1 : Int)) := fun z hz => (HC.out _ z Fd2.out hz).1
    have b1 : ∀ z, Fr w.drew.drew z (fun _ => False) → z.cell? ⟨b, j * 4 + 1, none⟩ = some (.int .u32 (g2 : Int)) := fun z hz => (HC.out _ z Fd2.out hz).2.1
    have b2 : ∀ z, Fr w.drew.drew z (fun _ => False) → z.cell? ⟨b, j * 4 + 2, none⟩ = some (.int .i64 t) := fun z hz => (HC.out _ z Fd2.out hz).2.2
    refine wp_region_tree (fun _ => False) (.take 0 (.take 1 (.take 2 (.take 3 (.take 4 (.take 5 (.take 6 (.take 7 (.take 8 (.take 9 (.one 10 (.take 11 .nil)))))))))))) (by kernel_rfl) (by kernel_rfl) (by decide) (by kernel_rfl) ?_
    iterate 10 (refine wpT_take (v := ?_) rfl rfl (fun x hx => ?_) ?_; rotate_left; (focus (go_simp; with_reducible rfl)); simp only [Act.put, List.setIfInBounds_toArray, List.set_cons_zero, List.set_cons_succ])
    refine wpT_one rfl rfl (fun K hK => ?_)
    go_simp
    refine (hle _).mono ?_
    rintro r x3 ⟨rfl, g⟩
    refine hK _ _ g ?_
    have G3 : Hid (Fr w x3 (fun _ => False)) := Fd2.out.none g
    clear hK K bx a0 a1 a2 b0 b1 b2 hle g
    repeat (refine wpT_take (v := ?_) rfl rfl (fun x hx => ?_) ?_; rotate_left; (focus (go_simp; with_reducible rfl)); simp only [Act.put, List.setIfInBounds_toArray, List.set_cons_zero, List.set_cons_succ])
    unfold wpT
    go_wp2_with fail
    go_ret
    exact ⟨rfl, G3.out⟩

end Go.Proofs.YtnffjafddbbjaaaGreatDoor
