/-
  The reference scanner's looks at a text.
-/
import Derived.Test.YtchkojdpnbecoaaDoorTScan
namespace Go.Proofs.YtchkojdpnbecoaaDoor
open Go.RowKit

/-- What stands there. -/
def scNext (s : ByteArray) (c : Sc) : Nat × Bool := if c.err = 0 ∧ c.pos < s.size then (chAt s c.pos, true) else (0, false)

set_option maxRecDepth 4000 in
set_option maxHeartbeats 1600000 in
theorem refNext_any (p : Nat) (s : ByteArray) (c : Sc) (w : World) (h : RSc w p s c) : Calls Tryd.prog 17 #[.pointer (some ⟨p, 0, none⟩)] w fun r w' => r = .returned (.tuple #[.int .u8 ((scNext s c).1 : Int), .bool (scNext s c).2]) ∧ Fr w w' (fun _ => False) := by
  obtain ⟨⟨B, O⟩, hR⟩ : ∃ R, R = scNext s c := ⟨_, rfl⟩
  rw [← hR]
  have HR : Hid _ := hR
  have H : Hid (RSc w p s c) := h
  have Hf1 : Hid (Fr w w.drew (fun _ => False)) := (Fr.refl w (fun _ => False)).drew
  have k0 : ∀ z, Fr w.drew z (fun _ => False) → z.cell? ⟨p, 0, none⟩ = some (.string s) := fun z hz => (five_cells ((Hf1.out.none hz).kept H.out (fun h => h))).1
  have k1 : ∀ z, Fr w.drew z (fun _ => False) → z.cell? ⟨p, 1, none⟩ = some (.int .i64 (c.pos : Int)) := fun z hz => (five_cells ((Hf1.out.none hz).kept H.out (fun h => h))).2.1
  have k4 : ∀ z, Fr w.drew z (fun _ => False) → z.cell? ⟨p, 4, none⟩ = some (.int .i64 (c.err : Int)) := fun z hz => (five_cells ((Hf1.out.none hz).kept H.out (fun h => h))).2.2.2.2
  clear hR h
  by_cases he : c.err = 0
  · have hb : ((c.err : Int) == 0) = true := by rw [beq_iff_eq]; omega
    have hb' : (c.err == 0) = true := by rw [beq_iff_eq]; exact he
    by_cases hlt : c.pos < s.size
    · have hge : decide ((s.size : Int) ≤ (c.pos : Int)) = false := by rw [decide_eq_false_iff_not]; omega
      have hge' : decide (s.size ≤ c.pos) = false := by rw [decide_eq_false_iff_not]; omega
      have HR2 : Hid ((B, O) = (chAt s c.pos, true)) := by show _ = _; rw [HR.out]; exact if_pos ⟨he, hlt⟩
      have hidx : ∀ z, (Instr.index 9 (.string s) (.int .i64 (c.pos : Int))).run Tryd.prog z = .ok (.int .u8 (chAt s c.pos : Int)) z := fun z => index_any s c.pos hlt z
      generalize chAt s c.pos = b at hidx HR2
      go_enter Tryd.func17, Tryd.ntmps17
      go_wp2_with fail
      refine wp_region_tree (fun _ => False) (.take 0 (.take 1 (.take 2 (.take 3 (.take 4 (.take 5 (.take 6 (.take 7 (.take 8 (.take 9 (.take 10 (.take 11 (.take 12 (.take 13 (.take 14 (.take 15 (.take 16 .nil))))))))))))))))) (by kernel_rfl) (by kernel_rfl) (by decide) (by kernel_rfl) ?_
      iterate 17 (refine wpT_take (v := ?_) rfl rfl (fun x hx => ?_) ?_; rotate_left; (focus (go_simp; with_reducible rfl)); simp only [Act.put, List.setIfInBounds_toArray, List.set_cons_zero, List.set_cons_succ])
      unfold wpT
      go_wp2_with fail
      have k0d : ∀ z, Fr w.drew.drew z (fun _ => False) → z.cell? ⟨p, 0, none⟩ = some (.string s) := fun z hz => k0 z ((Fr.refl w.drew (fun _ => False)).drew.none hz)
      have k1d : ∀ z, Fr w.drew.drew z (fun _ => False) → z.cell? ⟨p, 1, none⟩ = some (.int .i64 (c.pos : Int)) := fun z hz => k1 z ((Fr.refl w.drew (fun _ => False)).drew.none hz)
      refine wp_region_tree (fun _ => False) (.take 0 (.take 1 (.take 2 (.take 3 (.take 4 (.take 5 (.take 6 (.take 7 (.take 8 (.take 9 (.take 10 .nil))))))))))) (by kernel_rfl) (by kernel_rfl) (by decide) (by kernel_rfl) ?_
      iterate 11 (refine wpT_take (v := ?_) rfl rfl (fun x hx => ?_) ?_; rotate_left; (focus (go_simp; with_reducible rfl)); simp only [Act.put, List.setIfInBounds_toArray, List.set_cons_zero, List.set_cons_succ])
      unfold wpT
      go_wp2_with fail
      go_ret2
      cases HR2.out
      exact ⟨rfl, Hf1.out.drew⟩
    · have hge : decide ((s.size : Int) ≤ (c.pos : Int)) = true := by rw [decide_eq_true_iff]; omega
      have hge' : decide (s.size ≤ c.pos) = true := by rw [decide_eq_true_iff]; omega
      have HR2 : Hid ((B, O) = (0, false)) := by show _ = _; rw [HR.out]; exact if_neg (fun h => hlt h.2)
      go_enter Tryd.func17, Tryd.ntmps17
      go_wp2_with fail
      refine wp_region_tree (fun _ => False) (.take 0 (.take 1 (.take 2 (.take 3 (.take 4 (.take 5 (.take 6 (.take 7 (.take 8 (.take 9 (.take 10 (.take 11 (.take 12 (.take 13 (.take 14 (.take 15 (.take 16 .nil))))))))))))))))) (by kernel_rfl) (by kernel_rfl) (by decide) (by kernel_rfl) ?_
      iterate 17 (refine wpT_take (v := ?_) rfl rfl (fun x hx => ?_) ?_; rotate_left; (focus (go_simp; with_reducible rfl)); simp only [Act.put, List.setIfInBounds_toArray, List.set_cons_zero, List.set_cons_succ])
      unfold wpT
      go_wp2_with fail
      go_ret2
      cases HR2.out
      exact ⟨rfl, Hf1.out⟩
  · have hb : ((c.err : Int) == 0) = false := by rw [beq_eq_false_iff_ne]; omega
    have hb' : (c.err == 0) = false := by rw [beq_eq_false_iff_ne]; exact he
    have hbn : ((c.err : Int) != 0) = true := by rw [bne_iff_ne]; omega
    have HR2 : Hid ((B, O) = (0, false)) := by show _ = _; rw [HR.out]; exact if_neg (fun h => he h.1)
    go_enter Tryd.func17, Tryd.ntmps17
    go_wp2_with fail
    refine wp_region_tree (fun _ => False) (.take 0 (.take 1 (.take 2 (.take 3 (.take 4 (.take 5 (.take 6 (.take 7 (.take 8 (.take 9 (.take 10 (.take 11 (.take 12 (.take 13 (.take 14 (.take 15 (.take 16 .nil))))))))))))))))) (by kernel_rfl) (by kernel_rfl) (by decide) (by kernel_rfl) ?_
    iterate 6 (refine wpT_take (v := ?_) rfl rfl (fun x hx => ?_) ?_; rotate_left; (focus (go_simp; with_reducible rfl)); simp only [Act.put, List.setIfInBounds_toArray, List.set_cons_zero, List.set_cons_succ])
    iterate 10 (refine wpT_pass rfl rfl ?_; simp only [Act.put, List.setIfInBounds_toArray, List.set_cons_zero, List.set_cons_succ])
    (refine wpT_take (v := ?_) rfl rfl (fun x hx => ?_) ?_; rotate_left; (focus (go_simp; with_reducible rfl)); simp only [Act.put, List.setIfInBounds_toArray, List.set_cons_zero, List.set_cons_succ])
    unfold wpT
    go_wp2_with fail
    go_ret2
    cases HR2.out
    exact ⟨rfl, Hf1.out⟩

end Go.Proofs.YtchkojdpnbecoaaDoor
