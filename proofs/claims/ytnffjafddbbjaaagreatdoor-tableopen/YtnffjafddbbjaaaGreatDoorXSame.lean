/-
  The contracts of the reference's SameEvents and Same.
-/
import Derived.Test.YtnffjafddbbjaaaGreatDoorXAll
namespace Go.Proofs.YtnffjafddbbjaaaGreatDoor
open Go.RowKit

set_option maxRecDepth 4000 in
set_option maxHeartbeats 800000 in
theorem refSameEvents_any (v u : Value) (la lb : List Ev) (w : World) (h : RdV w v la) (hu : RdV w u lb) (hl : la.length ≤ 1000000) (hl2 : lb.length ≤ 1000000) : Calls Tryz.prog 38 #[v, u] w fun r w' => r = .returned (.bool (decide (la = lb))) ∧ Fr w w' (fun _ => False) := by
  obtain ⟨a0, c0, rfl, hc0⟩ := h.form
  obtain ⟨b0, d0, rfl, hd0⟩ := hu.form
  obtain ⟨n, hn⟩ : ∃ n, n = la.length := ⟨_, rfl⟩
  obtain ⟨m, hm⟩ : ∃ n, n = lb.length := ⟨_, rfl⟩
  rw [← hn] at h hl hc0 ⊢
  rw [← hm] at hu hl2 hd0 ⊢
  obtain ⟨B, hB⟩ : ∃ B, B = decide (la = lb) := ⟨_, rfl⟩
  rw [← hB]
  have Hr : Hid (RdV w (.slice a0 n c0) la) := h
  have Hu : Hid (RdV w (.slice b0 m d0) lb) := hu
  have Hn : Hid _ := hn
  have Hm : Hid _ := hm
  have HB : Hid _ := hB
  clear h hu hn hm hB
  by_cases hnm : n = m
  · subst hnm
    have d1 : ((n : Int) != (n : Int)) = false := by simp
    have d1' : ((n : Int) == (n : Int)) = true := by simp
    go_enter Tryz.func38, Tryz.ntmps38
    go_wp2_with fail
    go_loopg [5] n (fun g I wr => ∃ i : Nat, g = n - i ∧ i ≤ n ∧ I = .int .i64 (i : Int) ∧ (∀ j, j < i → la[j]? = lb[j]?) ∧ Fr w wr (fun _ => False))
    case atStart => exact ⟨0, by omega, by omega, rfl, fun j hj => by omega, Fr.refl _ _⟩
    case round =>
      obtain ⟨i, hg, hi, rfl, hle, hf⟩ := hrel
      have Hg : Hid _ := hg
      have Hle : Hid _ := hle
      have Hf : Hid (Fr w wr (fun _ => False)) := hf
      clear hg hle hf
      by_cases hlt : i < n
      · have hin : (i : Int) < (n : Int) := by omega
        have hin' : decide (i < n) = true := decide_eq_true hlt
        obtain ⟨⟨s, ⟨a1, a2⟩, ax⟩, ha⟩ : ∃ a, la[i]? = some a := ⟨_, List.getElem?_eq_getElem (by rw [← Hn.out]; omega)⟩
        obtain ⟨⟨t, ⟨f1, f2⟩, fx⟩, hb⟩ : ∃ a, lb[i]? = some a := ⟨_, List.getElem?_eq_getElem (by rw [← Hm.out]; omega)⟩
        obtain ⟨bk, off, cap, e3, hbk, hca⟩ := Hr.out.get i _ ha
        obtain ⟨bk', off', cap', e4, hbk', hcb⟩ := Hu.out.get i _ hb
        simp only [Value.slice.injEq] at e3 e4
        obtain ⟨rfl, -, rfl⟩ := e3
        obtain ⟨rfl, -, rfl⟩ := e4
        have Hab : Hid (la[i]? = some (s, (a1, a2), ax) ∧ lb[i]? = some (t, (f1, f2), fx)) := ⟨ha, hb⟩
        have ka0 : ∀ z, Fr wr.drew z (fun _ => False) → z.cell? ⟨bk, off + i * 4, none⟩ = some (.int .i64 s) := fun z hz => (hca z ((Hf.out.drew.none hz).mono (fun _ _ h => h.elim))).1
        have ka1 : ∀ z, Fr wr.drew z (fun _ => False) → z.cell? ⟨bk, off + i * 4 + 1, none⟩ = some (.int .u32 (a1 : Int)) := fun z hz => (hca z ((Hf.out.drew.none hz).mono (fun _ _ h => h.elim))).2.1
        have ka2 : ∀ z, Fr wr.drew z (fun _ => False) → z.cell? ⟨bk, off + i * 4 + 2, none⟩ = some (.int .u32 (a2 : Int)) := fun z hz => (hca z ((Hf.out.drew.none hz).mono (fun _ _ h => h.elim))).2.2.1
        have ka3 : ∀ z, Fr wr.drew z (fun _ => False) → z.cell? ⟨bk, off + i * 4 + 3, none⟩ = some (.bool ax) := fun z hz => (hca z ((Hf.out.drew.none hz).mono (fun _ _ h => h.elim))).2.2.2
        have kb0 : ∀ z, Fr wr.drew z (fun _ => False) → z.cell? ⟨bk', off' + i * 4, none⟩ = some (.int .i64 t) := fun z hz => (hcb z ((Hf.out.drew.none hz).mono (fun _ _ h => h.elim))).1
        have kb1 : ∀ z, Fr wr.drew z (fun _ => False) → z.cell? ⟨bk', off' + i * 4 + 1, none⟩ = some (.int .u32 (f1 : Int)) := fun z hz => (hcb z ((Hf.out.drew.none hz).mono (fun _ _ h => h.elim))).2.1
        have kb2 : ∀ z, Fr wr.drew z (fun _ => False) → z.cell? ⟨bk', off' + i * 4 + 2, none⟩ = some (.int .u32 (f2 : Int)) := fun z hz => (hcb z ((Hf.out.drew.none hz).mono (fun _ _ h => h.elim))).2.2.1
        have kb3 : ∀ z, Fr wr.drew z (fun _ => False) → z.cell? ⟨bk', off' + i * 4 + 3, none⟩ = some (.bool fx) := fun z hz => (hcb z ((Hf.out.drew.none hz).mono (fun _ _ h => h.elim))).2.2.2
        have hi0 : (0 : Int) ≤ (i : Int) := by omega
        obtain ⟨D, hD⟩ : ∃ D, D = decide ((s, (a1, a2), ax) = (t, (f1, f2), fx)) := ⟨_, rfl⟩
        have HD : Hid _ := hD
        clear hca hcb ha hb hbk hbk' hD
        go_wp2_with fail
        refine wp_region_tree (fun _ => False) (.take 0 (.take 1 (.take 2 (.take 3 (.take 4 (.take 5 (.take 6 (.take 7 (.take 8 .nil))))))))) (by kernel_rfl) (by kernel_rfl) (by decide) (by kernel_rfl) ?_
        iterate 8 (refine wpT_take (v := ?_) rfl rfl (fun x hx => ?_) ?_; rotate_left; (focus (go_simp; with_reducible rfl)); simp only [Act.put, List.setIfInBounds_toArray, List.set_cons_zero, List.set_cons_succ])
        refine wpT_take (v := .bool (!D)) rfl rfl (fun x hx => ?_) ?_
        · rw [HD.out]
          go_simp
          by_cases h1 : s = t <;> by_cases h2 : a1 = f1 <;> by_cases h3 : a2 = f2 <;> cases ax <;> cases fx <;> simp [h1, h2, h3, Int.ofNat_inj]
        simp only [Act.put, List.setIfInBounds_toArray, List.set_cons_zero, List.set_cons_succ]
        clear ka0 ka1 ka2 ka3 kb0 kb1 kb2 kb3
        have Hf3 : Hid (Fr w wr.drew (fun _ => False)) := Hf.out.drew
        unfold wpT
        cases D with
        | false =>
          have Hres : Hid (B = false) := by
            show _ = _
            rw [HB.out]
            refine decide_eq_false fun h => of_decide_eq_false HD.out.symm ?_
            have h1 := Hab.out.1
            rw [h, Hab.out.2] at h1
            simp only [Option.some.injEq] at h1
            exact h1.symm
          obtain rfl := Hres.out
          go_wp2
          go_ret
          exact ⟨rfl, Hf3.out⟩
        | true =>
          have Hle2 : Hid (∀ j, j < i + 1 → la[j]? = lb[j]?) := fun j hj => by
            by_cases h : j < i
            · exact Hle.out j h
            · have e : j = i := by omega
              subst e
              rw [Hab.out.1, Hab.out.2, of_decide_eq_true HD.out.symm]
          go_wp2_with fail
          go_roundg (n - (i + 1))
          case rel => exact ⟨i + 1, rfl, by omega, by go_num, Hle2.out, Hf3.out⟩
          case measure => rw [Hg.out]; omega
      · have hin : ¬ (i : Int) < (n : Int) := by omega
        have hin' : decide (i < n) = false := decide_eq_false hlt
        have Hres : Hid (B = true) := by
          show _ = _
          rw [HB.out]
          exact decide_eq_true (same_all Hn.out.symm Hm.out.symm (fun j hj => Hle.out j (by omega)))
        obtain rfl := Hres.out
        go_wp2
        go_ret
        exact ⟨rfl, Hf.out⟩
  · have d1 : ((n : Int) != (m : Int)) = true := by rw [bne_iff_ne]; omega
    have d1' : ((n : Int) == (m : Int)) = false := by rw [beq_eq_false_iff_ne]; omega
    have d2 : (n == m) = false := by rw [beq_eq_false_iff_ne]; exact hnm
    have Hres : Hid (B = false) := by
      show _ = _
      rw [HB.out]
      exact decide_eq_false (fun h => hnm (by rw [Hn.out, Hm.out, h]))
    obtain rfl := Hres.out
    go_enter Tryz.func38, Tryz.ntmps38
    go_wp2
    go_ret
    exact ⟨rfl, Fr.refl w _⟩

set_option maxRecDepth 4000 in
set_option maxHeartbeats 400000 in
theorem refSame_any (n m : Nat) (v u : Value) (la lb : List Ev) (w : World) (h : RdV w v la) (hu : RdV w u lb) (hl : la.length ≤ 1000000) (hl2 : lb.length ≤ 1000000) : Calls Tryz.prog 15 #[histV n v, histV m u] w fun r w' => r = .returned (.bool (decide (n = m ∧ la = lb))) ∧ Fr w w' (fun _ => False) := by
  obtain ⟨a0, c0, rfl, hc0⟩ := h.form
  obtain ⟨b0, d0, rfl, hd0⟩ := hu.form
  have Hr : Hid (RdV w (.slice a0 la.length c0) la) := h
  have Hu : Hid (RdV w (.slice b0 lb.length d0) lb) := hu
  obtain ⟨D, hD⟩ : ∃ D, D = decide (la = lb) := ⟨_, rfl⟩
  have HD : Hid _ := hD
  clear h hu hD
  unfold histV
  by_cases hnm : n = m
  · have d1 : ((n : Int) == (m : Int)) = true := by simp [hnm]
    have d1' : (n == m) = true := by simp [hnm]
    have Hres : Hid (decide (n = m ∧ la = lb) = D) := by show _ = _; rw [HD.out]; simp [hnm]
    rw [Hres.out]
    clear hnm
    go_enter Tryz.func15, Tryz.ntmps15
    go_wp2_with fail
    refine (refSameEvents_any _ _ la lb _ (Hr.out.keep (((Fr.refl _ _).alloc _).alloc _)) (Hu.out.keep (((Fr.refl _ _).alloc _).alloc _)) hl hl2).mono ?_
    rw [← HD.out]
    rintro r w1 ⟨rfl, hf1⟩
    have Hf1 : Hid (Fr w w1 (fun _ => False)) := (((Fr.refl w (fun _ => False)).alloc _).alloc _).none hf1
    clear hf1
    go_wp2
    go_ret
    exact ⟨rfl, Hf1.out⟩
  · have d1 : ((n : Int) == (m : Int)) = false := by rw [beq_eq_false_iff_ne]; omega
    have d1' : (n == m) = false := by rw [beq_eq_false_iff_ne]; exact hnm
    have Hres : Hid (decide (n = m ∧ la = lb) = false) := decide_eq_false (fun h => hnm h.1)
    rw [Hres.out]
    go_enter Tryz.func15, Tryz.ntmps15
    go_wp2
    go_ret
    exact ⟨rfl, ((Fr.refl w _).alloc _).alloc _⟩

end Go.Proofs.YtnffjafddbbjaaaGreatDoor
